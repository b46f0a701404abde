import Derived.Test.YtfmammdgehbjhaaGreatDoorW40
set_option maxRecDepth 100000
set_option maxHeartbeats 64000000
namespace Go.Proofs.YtfmammdgehbjhaaGreatDoor
open Go Go.RowKit
theorem q5t {ops:Array Oper}{rest:List Oper}{o:Oper}{a:Act}{w:World}{Q:Exit->Act->World->Prop}(hg:o.guard=none)(t:TypeId)(parts:Array (Nat × Operand))(ho:o.op=.build t parts)(cells:Array Value)
 (hc:Tryz.prog.built t (parts.map fun (i,x)=>(i,a.eval x)).toList=some cells) (h:wpList Tryz.prog ops Q rest (a.put o.dst (.agg cells)) w):wpList Tryz.prog ops Q (o :: rest) a w :=
 wpList_build hg t parts ho (by rw[hc];rfl) (by rw[hc];exact h)
theorem q5s {ops:Array Oper}{rest:List Oper}{o:Oper}{a:Act}{w:World}{Q:Exit->Act->World->Prop}(hg:o.guard=none)(t:TypeId)(x0 x1 x2 x3 x4 x5 x6 x7 x8:Operand){v0 v1 v2 v3 v4 v5 v6 v7 v8:Value}(ho:o.op=.build t #[(0,x0),(1,x1),(2,x2),(3,x3),(4,x4),(5,x5),(6,x6),(7,x7),(8,x8)])
 (e0:a.eval x0=v0) (e1:a.eval x1=v1) (e2:a.eval x2=v2) (e3:a.eval x3=v3) (e4:a.eval x4=v4) (e5:a.eval x5=v5) (e6:a.eval x6=v6) (e7:a.eval x7=v7) (e8:a.eval x8=v8) (cells:Array Value)
 (hc:Tryz.prog.built t [(0,v0),(1,v1),(2,v2),(3,v3),(4,v4),(5,v5),(6,v6),(7,v7),(8,v8)]=some cells) (h:wpList Tryz.prog ops Q rest (a.put o.dst (.agg cells)) w):wpList Tryz.prog ops Q (o :: rest) a w :=
 q5t hg t _ ho cells (by simp only[List.map_toArray,Vr,List.map_nil,e0,e1,e2,e3,e4,e5,e6,e7,e8];exact hc) h
theorem qfl (s0 s7:ByteArray)(i1 i2:Int)(a3 a4 a5 a6 a8:Option Addr)(n3 n4 n5 n6 n8 c3 c4 c5 c6 c8:Nat):Tryz.prog.built 52 [(0,.string s0),(1,Ya i1),(2,Ya i2),(3,.slice a3 n3 c3),(4,.slice a4 n4 c4),(5,.slice a5 n5 c5),(6,.slice a6 n6 c6),(7,.string s7),(8,.slice a8 n8 c8)]=some (Jp s0 i1 i2 a3 n3 c3 a4 n4 c4 a5 n5 c5 a6 n6 c6 s7 a8 n8 c8):=by kernel_rfl
theorem qc8 {l:List ByteArray}{k:Nat}(hk:k<l.length)(hn:(l.take k).Nodup):((fdI l l[k]:Int)=(k:Int)) ↔ (l.take (k+1)).Nodup:=by
 rw[Yq hk,List.nodup_append]
 constructor
 . intro h
   refine⟨hn,by simp,fun a ha b hb e=>?_⟩;rw[Y7.1 hb]at e;subst e;obtain⟨j,hj,ej⟩:=Zo.1 ha;rw[Yu]at hj;rw[Ve]at ej;have hm:memB l[k] l=true:=(qct _ _).2 (Ys hk);rw[fdI_y hm]at h;have h1:ixN l l[k]<=j:=by
    refine Yv fun hn=>?_;have:=List.not_of_lt_findIdx (p:=fun y=>decide (y=l[k])) (xs:=l) (i:=j) (by unfold ixN at hn;omega);simp[ej]at this
   omega
 . rintro⟨-,-,h⟩
   exact fdI_at hk rfl fun j hj hjk e=>h l[j] (Zo.2 ⟨j,by rw[Yu];omega,by rw[Ve]⟩) l[k] (by simp) e
theorem q4x (m:Fm)(P:List (Fl × FA))(last:Nat)(x:Sx)(v1 v2 v3 v4 v:Value)(base:Nat)(w:World)(hk:x.kind=4)(hb0:base<=w.heap.size)(hm:OwM w base v1 v2 v3 v4 m P)(hv:VfB m)(hx:SxV w base v x)(hl:last<=4)(hbl:x.bys.length<=1048576)(hf1:RlF x.u.is)(hf2:RlF x.u.wh)(hf3:RlF x.u.va)(hf4:RlF x.u.mu) :
 Calls Tryz.prog 13 #[.agg #[v1,v2,v3,v4],v,Ya (last:Nat)] w (AddO w base m last x):=by
 obtain⟨kind,name,other,auto,typ,bys,u⟩:=x
 obtain⟨vb,vi,vh,vv,vm,rfl,hsb,hsi,hsh,hsv,hsm⟩:=hx
 simp only at hk hsb hsi hsh hsv hsm hbl hf1 hf2 hf3 hf4
 subst hk
 obtain⟨A,-,hsl,rfl,rfl,rfl,rfl,-⟩:=hm.sl
 obtain⟨ab,cb,rfl,-,-⟩:=hsb.strs
 obtain⟨ai,ci,rfl,-⟩:=hsi.nods
 obtain⟨ah,ch,rfl,-⟩:=hsh.nods
 obtain⟨av,cv,rfl,-⟩:=hsv.nods
 obtain⟨au,cu,rfl,-⟩:=hsm.nods
 dsimp only
 rw[show(((4:Nat):Int))=4 from rfl]
 have bl:=hv.nl;have bp:=hv.np;have br:=hv.nr;have bf:=hv.nf
 have HB:=h_ ((((bR w.heap.size w).alloc (nR _) (.cells (Jb A m) 27)).alloc (by simp) (.cells (Jl name other auto (typ:Nat) ab bys.length cb ai u.is.length ci ah u.wh.length ch av u.va.length cv u.sa au u.mu.length cu) 44)).alloc (by simp;omega) (.cells Jc 27))
 have HF:=h_ (((Blk.new w 27 (Jb A m)).alloc (.cells (Jl name other auto (typ:Nat) ab bys.length cb ai u.is.length ci ah u.wh.length ch av u.va.length cv u.sa au u.mu.length cu) 44)).alloc (.cells Jc 27))
 have HS:=h_ ((Blk.new (w.alloc (.cells (Jb A m) 27)) 44 (Jl name other auto (typ:Nat) ab bys.length cb ai u.is.length ci ah u.wh.length ch av u.va.length cv u.sa au u.mu.length cu)).alloc (.cells Jc 27))
 have HR:=h_ (Blk.new ((w.alloc (.cells (Jb A m) 27)).alloc (.cells (Jl name other auto (typ:Nat) ab bys.length cb ai u.is.length ci ah u.wh.length ch av u.va.length cv u.sa au u.mu.length cu) 44)) 27 Jc)
 rw[Yy]at HS
 rw[Yy,Yy]at HR
 obtain⟨W0,hW0⟩:=Nq (((w.alloc (.cells (Jb A m) 27)).alloc (.cells (Jl name other auto (typ:Nat) ab bys.length cb ai u.is.length ci ah u.wh.length ch av u.va.length cv u.sa au u.mu.length cu) 44)).alloc (.cells Jc 27))
 rw[hW0]at HB HF HS HR
 have HM:=h_ (hm.mono HB.u)
 have HKs:Hi (∀g cs,Blk w g 44 cs->Blk W0 g 44 cs):=h_ fun g cs h=>h.mono HB.u h.lt
 have HRn:=h_ (q0x m A W0 br (hsl.r.mono HB.u))
 have HLs:=h_ (hsl.l.mono HB.u)
 have HRl:=h_ (hsl.r.mono HB.u);have HFl:=h_ (hsl.f.mono HB.u)
 have HB0:=h_ hb0
 clear hm hsl hb0
 obtain⟨⟨s0,s1,s2,s3,s4,s5⟩,s6,s7,s8,s9,s10⟩:=eleven HS.u
 obtain⟨g0,g1,g2,g3⟩:=quad HF.u
 have hla:¬ 4<last:=by omega
 have hla':¬ ((4:Int)<(last:Int)):=by omega
 have HLa:=h_ hla
 have Hf1:=h_ hf1;have Hf2:=h_ hf2;have Hf3:=h_ hf3;have Hf4:=h_ hf4
 have HSb:=h_ (hsb.keep HB.u);have HSi:=h_ (hsi.keep HB.u);have HSh:=h_ (hsh.keep HB.u);have HSv:=h_ (hsv.keep HB.u);have HSm:=h_ (hsm.keep HB.u)
 clear hla hf1 hf2 hf3 hf4 hsb hsi hsh hsv hsm
 go_enter Tryz.func13,Tryz.ntmps13
 go_wp2_with fail
 try rw[hW0]
 refine HRn.u.mono ?_
 rintro e W1 ⟨a0,c0,rfl,hro,hb⟩
 have HRo:=h_ hro
 clear hro hW0 HRn
 replace HSb:=h_ (HSb.u.keep hb);replace HSi:=h_ (HSi.u.keep hb);replace HSh:=h_ (HSh.u.keep hb);replace HSv:=h_ (HSv.u.keep hb);replace HSm:=h_ (HSm.u.keep hb)
 replace HF:=h_ (HF.u.mono hb HF.u.lt);replace HS:=mB HS hb;replace HR:=mB HR hb;replace HM:=h_ (HM.u.mono hb);replace HB:=mT HB hb;replace HLs:=h_ (HLs.u.mono hb);replace HRl:=h_ (HRl.u.mono hb);replace HFl:=h_ (HFl.u.mono hb)
 replace HKs:=h_ (fun g cs h=>(HKs.u g cs h).mono hb (HKs.u g cs h).lt)
 clear hb s0 s1 s2 s3 s4 s5 s6 s7 s8 s9 s10 g0 g1 g2 g3
 obtain⟨⟨s0,s1,s2,s3,s4,s5⟩,s6,s7,s8,s9,s10⟩:=eleven HS.u
 obtain⟨g0,g1,g2,g3⟩:=quad HF.u
 have hrl:(rNames m).length=m.R.length:=by simp[rNames]
 have HFd:=h_ (fun nm W (h:Strs W a0 (rNames m))=>q9j a0 c0 (rNames m) nm W (by rw[hrl];omega) h)
 rw[hrl]at HFd
 clear hrl
 go_wp2_with fail
 refine(q9j _ _ _ _ _ (by omega) HLs.u).mono ?_
 rintro e W8 ⟨rfl,hwe⟩
 subst hwe
 by_cases hcap:200<=m.F.length
 case pos =>
  have hcap':(200:Int)<=(m.F.length:Int):=by omega
  have HX:Hi (addS m last ⟨4,name,other,auto,typ,bys,u⟩=.inl 5):=h_ (by unfold addS;rw[Yi HLa.u,Yi (show ¬ (4:Nat)=1 by decide),Yi (show ¬ (4:Nat)=2 by decide),Yi (show ¬ (4:Nat)=3 by decide),Yn hcap]);clear hcap;go_wp2_with (refine stR HR.u ?_);have HBq:=h_ (HR.u.rowS (Jb A m).toList);obtain⟨q0,q1,q2,q3⟩:=quad HBq.u;exact bodyPost_ret (v:=.tuple #[.agg (Jb A m),Ya 5]) (by simp[results,Tryz.results13,go_sem,q0,q1,q2,q3]) rfl ⟨(q8i HB.u (by omega) _).mono HB0.u,fun g cs h=>(HKs.u g cs h).rowS_other (fun e=>by have:=h.lt;omega) _,.inl ⟨5,_,HX.u,by decide,⟨_,_,_,_,_,_,_,_,_,_,_,_,rfl⟩,rfl⟩⟩
 have hcap':¬ (200:Int)<=(m.F.length:Int):=by omega
 have HCp:=h_ hcap
 clear hcap
 obtain⟨b6,hb6⟩:=Nq (memB name (fNames m))
 have HB6:=h_ hb6
 have hge6:decide ((0:Int)<=fdI (fNames m) name)=b6:=by
  rw[<- hb6];cases hme:memB name (fNames m)
  . rw[fdI_n hme];decide
  . rw[fdI_y hme];exact Yh (by omega)
 have hfl:(fNames m).length=m.F.length:=by simp[fNames]
 have HFf:=h_ (fun af cf W (h:Strs W af (fNames m))=>q9j af cf (fNames m) name W (by rw[hfl];omega) h)
 rw[hfl]at HFf
 clear hb6 hfl
 go_upto_region 34 with fail
 go_cut [127] from 17 (fun s wx=>s=.bool b6/\Below W8.heap.size W8 wx)
 case first =>
  as_aux_lemma =>
   have hbd:Below W8.heap.size W8 W8.drew:=(bR _ _).drew;have HD8:=h_ hbd;have HNm:=h_ (q0k m A W8.drew bf (HFl.u.mono hbd));have HS9:Hi (Blk W8.drew w.heap.size 27 (Jb A m).toList/\Blk W8.drew (w.heap.size+1) 44 (Jl name other auto (typ:Nat) ab bys.length cb ai u.is.length ci ah u.wh.length ch av u.va.length cv u.sa au u.mu.length cu).toList):=h_ ⟨HF.u.mono hbd HF.u.lt,HS.u.mono hbd HS.u.lt⟩;clear hbd;refine wp_region_held_drew (S:=fun w'=>Blk w' w.heap.size 27 (Jb A m).toList/\Blk w' (w.heap.size+1) 44 (Jl name other auto (typ:Nat) ab bys.length cb ai u.is.length ci ah u.wh.length ch av u.va.length cv u.sa au u.mu.length cu).toList) (by kernel_rfl) HS9.u (fun zz=>?_);refine tj 0 122 (.agg (Jb A m)) zz ?_ (hy:=fun w hS=>by obtain⟨q0,q1,q2,q3⟩:=quad hS.1;simp[execOp,go_sem,q0,q1,q2,q3]);refine tj 2 124 (Yd (w.heap.size+1) 1) zz ?_;refine tj 3 125 (.string name) zz ?_ (hy:=fun w hS=>by obtain⟨⟨q0,q1,q2,q3,q4,q5⟩,-⟩:=eleven hS.2;simp[execOp,go_sem,q1]);simp only[sX,sY,sZ];refine callY (i:=1) (f:=14) (args:=#[.agg (Jb A m)]) (R:=fun v wz=>∃af cf,v=.slice af m.F.length cf/\Strs wz af (fNames m)/\Below W8.drew.heap.size W8.drew wz) 123 rfl rfl (by rfl) (by kernel_rfl) (by simp[execOp,go_sem]) (HNm.u.mono fun e w6 ⟨af,cf,he,hs,hb⟩=>⟨_,he,af,cf,rfl,hs,hb⟩) ?_;rintro v W7 ⟨af,cf,rfl,hs7,hb7⟩;have HS7:=h_ hs7;have HB7:=mT HD8 hb7;have hh7:Blk W7 w.heap.size 27 (Jb A m).toList/\Blk W7 (w.heap.size+1) 44 (Jl name other auto (typ:Nat) ab bys.length cb ai u.is.length ci ah u.wh.length ch av u.va.length cv u.sa au u.mu.length cu).toList:=⟨HS9.u.1.mono hb7 HS9.u.1.lt,HS9.u.2.mono hb7 HS9.u.2.lt⟩;refine⟨hh7,?_⟩;replace zz:=hh7;simp only[sX,sY,sZ];refine callY (i:=4) (f:=50) (args:=#[.slice af m.F.length cf,.string name]) (R:=fun v wz=>v=Ya (fdI (fNames m) name)/\wz=W7) 126 rfl rfl (by rfl) (by kernel_rfl) (by simp[execOp,go_sem]) ((HFf.u af cf W7 HS7.u).mono fun e w6 ⟨he,hb⟩=>⟨_,he,rfl,hb⟩) ?_;rintro v W6' ⟨rfl,rfl⟩;refine⟨hh7,?_⟩;simp only[sX,sY,sZ];refine tj 5 127 (.bool b6) zz ?_ (hy:=fun w hS=>by simp[execOp,go_sem];exact hge6);simp only[sX,sY,sZ];refine wpAnyH_done (by kernel_rfl) ?_ _;clear zz hh7 hs7 hb7;go_wp2_with fail;go_meet;exact⟨rfl,HB7.u⟩
 case rest =>
  obtain⟨rfl,hb⟩:=hcut;replace HSb:=h_ (HSb.u.keep hb);replace HSi:=h_ (HSi.u.keep hb);replace HSh:=h_ (HSh.u.keep hb);replace HSv:=h_ (HSv.u.keep hb);replace HSm:=h_ (HSm.u.keep hb);replace HRo:=h_ (HRo.u.mono hb);replace HF:=h_ (HF.u.mono hb HF.u.lt);replace HS:=mB HS hb;replace HR:=mB HR hb;replace HM:=h_ (HM.u.mono hb);replace HB:=mT HB hb;replace HLs:=h_ (HLs.u.mono hb);replace HRl:=h_ (HRl.u.mono hb);replace HFl:=h_ (HFl.u.mono hb);replace HKs:=h_ (fun g cs h=>(HKs.u g cs h).mono hb (HKs.u g cs h).lt);clear hb s0 s1 s2 s3 s4 s5 s6 s7 s8 s9 s10 g0 g1 g2 g3;obtain⟨⟨s0,s1,s2,s3,s4,s5⟩,s6,s7,s8,s9,s10⟩:=eleven HS.u;obtain⟨g0,g1,g2,g3⟩:=quad HF.u;clear hge6 HFf;cases b6
  case true =>
   as_aux_lemma =>
    have HX:Hi (addS m last ⟨4,name,other,auto,typ,bys,u⟩=.inl 6):=h_ (by unfold addS;rw[Yi HLa.u,Yi (show ¬ (4:Nat)=1 by decide),Yi (show ¬ (4:Nat)=2 by decide),Yi (show ¬ (4:Nat)=3 by decide),Yi HCp.u,Yn (by simp[HB6.u])]);go_wp2_with (refine stR HR.u ?_);have HBq:=h_ (HR.u.rowS (Jb A m).toList);obtain⟨q0,q1,q2,q3⟩:=quad HBq.u;exact bodyPost_ret (v:=.tuple #[.agg (Jb A m),Ya 6]) (by simp[results,Tryz.results13,go_sem,q0,q1,q2,q3]) rfl ⟨(q8i HB.u (by omega) _).mono HB0.u,fun g cs h=>(HKs.u g cs h).rowS_other (fun e=>by have:=h.lt;omega) _,.inl ⟨6,_,HX.u,by decide,⟨_,_,_,_,_,_,_,_,_,_,_,_,rfl⟩,rfl⟩⟩
  obtain⟨V,hV⟩:∃V,V=wc:=⟨_,rfl⟩;subst hV;have HVl:Hi (base<=V.heap.size):=h_ (Yt HB0.u HB.u.size);obtain⟨un,hun⟩:=Nq ((!auto&&!memB other m.L));have HUn:=h_ hun;have HYb:=h_ ((bR V.heap.size V).alloc (nR _) (.cells #[] 3));have HOe:Hi (OwI (V.alloc (.cells #[] 3)) V.heap.size (.slice (some ⟨V.heap.size,0,none⟩) 0 0) []):=h_ ⟨rfl,.inr ⟨V.heap.size,0,#[],rfl,nR _,heap_alloc_new V (.cells #[] 3),nR _,nZ _,rfl,rfl⟩⟩;obtain⟨Y,hY⟩:=Nq (V.alloc (.cells #[] 3));rw[hY]at HYb HOe;clear hun;go_upto_region 37 with fail
  try rw[hY]
  clear hY s0 s1 s2 s3 s4 s5 s6 s7 s8 s9 s10 g0 g1 g2 g3;have HSy:=h_ (HS.u.mono HYb.u HS.u.lt);go_cut [13] from 17 (fun s wx=>s=.bool un/\wx=Y)
  case first =>
   as_aux_lemma =>
    obtain⟨⟨s0,s1,s2,s3,s4,s5⟩,s6,s7,s8,s9,s10⟩:=eleven HSy.u;have hu:=HUn.u;cases auto
    . cases hmo:memB other m.L
      . rw[hmo]at hu
        obtain rfl:true=un:=hu;have hlt0:fdI m.L other<0:=(by rw[fdI_n hmo];decide);clear hmo;go_wp2_with fail;go_meet;exact⟨rfl,rfl⟩
      . rw[hmo]at hu
        obtain rfl:false=un:=hu;have hlt0:¬ fdI m.L other<0:=(by rw[fdI_y hmo];omega);clear hmo;go_wp2_with fail;go_meet;exact⟨rfl,rfl⟩
    . obtain rfl:false=un:=hu
      go_wp2_with fail;go_meet;exact⟨rfl,rfl⟩
  case rest =>
   obtain⟨rfl,hw9⟩:=hcut;subst hw9;clear HSy;go_wp2_with fail;go_loopw [12,13,14,15] (fun v12 v13 v14 _ wr=>∃k:Nat,v14=Ya k/\k<=bys.length/\v13=.bool (un||(bys.take k).any fun b=>!memB b (rNames m))/\(bys.take k).Nodup/\OwI wr V.heap.size v12 ((bys.take k).map (fdI (rNames m)))/\Below V.heap.size V wr) (fun _ _ v14 _ _=>bys.length - (intOf v14).toNat)
   case atStart=>exact⟨0,rfl,nZ _,by simp,by simp,HOe.u,HYb.u⟩
   case round =>
    obtain⟨k,rfl,hkl,rfl,hnd,how,hbw⟩:=hrel;have HOw:=h_ how;have HBw:=h_ hbw;have HNd:=h_ hnd;have HSw:=mB HS hbw;clear how hnd hbw HOe HYb;obtain⟨⟨s0,s1,s2,s3,s4,s5⟩,s6,s7,s8,s9,s10⟩:=eleven HSw.u;by_cases hlt:k<bys.length
    case neg =>
     as_aux_lemma =>
      have hlt':¬ (k:Int)<(bys.length:Int):=(by omega);obtain⟨u9,hu9⟩:=Nq ((un||(bys.take k).any fun b=>!memB b (rNames m)));have HTk:Hi (bys.take k=bys):=h_ (Za (by omega));have HU9:Hi (u9 = !((auto||memB other m.L)&&bys.all fun b=>memB b (rNames m))):=h_ (by
       rw[<- hu9,HTk.u,<- HUn.u,Bool.not_and,Bool.not_or,List.not_all_eq_any_not])
      have HNb:Hi bys.Nodup:=h_ (by have:=HNd.u;rwa [HTk.u]at this);rw[hu9];clear hu9;have HF3:=h_ (HF.u.mono HBw.u HF.u.lt);have HR3:=h_ (HR.u.mono HBw.u HR.u.lt);obtain⟨g0,g1,g2,g3⟩:=quad HF3.u;cases u9
      case true =>
       have HX:Hi (addS m last ⟨4,name,other,auto,typ,bys,u⟩=.inl 7):=h_ (by unfold addS;rw[Yi HLa.u,Yi (show ¬ (4:Nat)=1 by decide),Yi (show ¬ (4:Nat)=2 by decide),Yi (show ¬ (4:Nat)=3 by decide),Yi HCp.u,Yi (by simp[HB6.u,HNb.u]),Yn (by have h:=HU9.u;rw[eq_comm,Bool.not_eq_true']at h;exact h)]);replace HF:=HF3;replace HR:=HR3;replace HKs:=h_ (fun g cs h=>(HKs.u g cs h).mono HBw.u (HKs.u g cs h).lt);replace HB:=h_ (HB.u.trans (HBw.u.mono HB.u.size));go_wp2_with (refine stR HR.u ?_);have HBq:=h_ (HR.u.rowS (Jb A m).toList);obtain⟨q0,q1,q2,q3⟩:=quad HBq.u;exact bodyPost_ret (v:=.tuple #[.agg (Jb A m),Ya 7]) (by simp[results,Tryz.results13,go_sem,q0,q1,q2,q3]) rfl ⟨(q8i HB.u (by omega) _).mono HB0.u,fun g cs h=>(HKs.u g cs h).rowS_other (fun e=>by have:=h.lt;omega) _,.inl ⟨7,_,HX.u,by decide,⟨_,_,_,_,_,_,_,_,_,_,_,_,rfl⟩,rfl⟩⟩
      case false =>
       obtain⟨r1,hr1⟩:∃q,ruleOk u.is=q:=⟨_,rfl⟩;have HR1:Hi (∀W,Below V.heap.size V W->Calls Tryz.prog 51 #[.slice ai u.is.length ci] W fun e w'=>e=.returned (.bool r1)/\Below W.heap.size W w'):=h_ fun W hW=>by
        have h1:=Hf1.u.1;have:=q3c ai ci u.is W (by omega) (qhx (HSi.u.keep hW)) Hf1.u.2
        rwa [hr1]at this
       obtain⟨r2,hr2⟩:∃q,ruleOk u.wh=q:=⟨_,rfl⟩;have HR2:Hi (∀W,Below V.heap.size V W->Calls Tryz.prog 51 #[.slice ah u.wh.length ch] W fun e w'=>e=.returned (.bool r2)/\Below W.heap.size W w'):=h_ fun W hW=>by
        have h1:=Hf2.u.1;have:=q3c ah ch u.wh W (by omega) (qhx (HSh.u.keep hW)) Hf2.u.2
        rwa [hr2]at this
       obtain⟨r3,hr3⟩:∃q,ruleOk u.va=q:=⟨_,rfl⟩;have HR3:Hi (∀W,Below V.heap.size V W->Calls Tryz.prog 51 #[.slice av u.va.length cv] W fun e w'=>e=.returned (.bool r3)/\Below W.heap.size W w'):=h_ fun W hW=>by
        have h1:=Hf3.u.1;have:=q3c av cv u.va W (by omega) (qhx (HSv.u.keep hW)) Hf3.u.2
        rwa [hr3]at this
       obtain⟨r4,hr4⟩:∃q,ruleOk u.mu=q:=⟨_,rfl⟩;have HR4:Hi (∀W,Below V.heap.size V W->Calls Tryz.prog 51 #[.slice au u.mu.length cu] W fun e w'=>e=.returned (.bool r4)/\Below W.heap.size W w'):=h_ fun W hW=>by
        have h1:=Hf4.u.1;have:=q3c au cu u.mu W (by omega) (qhx (HSm.u.keep hW)) Hf4.u.2
        rwa [hr4]at this
       have HRs:Hi ((ruleOk u.is&&ruleOk u.wh&&ruleOk u.va&&ruleOk u.mu)=(r1&&r2&&r3&&r4)):=h_ (by rw[hr1,hr2,hr3,hr4]);clear hr1 hr2 hr3 hr4;have HBz:=HBw;have HBy:=h_ (bR wr.heap.size wr);have HSz:=HSw;go_upto_region 49 with fail
       go_cut [191] from 17 (fun s wx=>s=.bool (!(r1&&r2&&r3&&r4))/\Below wr.heap.size wr wx)
       case first =>
        as_aux_lemma =>
         go_wp2_with fail;refine(HR1.u _ HBz.u).mono ?_;rintro e w3 ⟨rfl,hb⟩;replace HBz:=mT HBz hb;replace HBy:=mT HBy hb;replace HSz:=mB HSz hb;clear hb s0 s1 s2 s3 s4 s5 s6 s7 s8 s9 s10;obtain⟨⟨s0,s1,s2,s3,s4,s5⟩,s6,s7,s8,s9,s10⟩:=eleven HSz.u
         try dsimp only
         cases r1
         case false =>
          go_wp2_with fail;go_meet;exact⟨by simp,HBy.u⟩
         go_wp2_with fail;refine(HR2.u _ HBz.u).mono ?_;rintro e w4 ⟨rfl,hb⟩;replace HBz:=mT HBz hb;replace HBy:=mT HBy hb;replace HSz:=mB HSz hb;clear hb s0 s1 s2 s3 s4 s5 s6 s7 s8 s9 s10;obtain⟨⟨s0,s1,s2,s3,s4,s5⟩,s6,s7,s8,s9,s10⟩:=eleven HSz.u
         try dsimp only
         cases r2
         case false =>
          go_wp2_with fail;go_meet;exact⟨by simp,HBy.u⟩
         go_wp2_with fail;refine(HR3.u _ HBz.u).mono ?_;rintro e w5 ⟨rfl,hb⟩;replace HBz:=mT HBz hb;replace HBy:=mT HBy hb;replace HSz:=mB HSz hb;clear hb s0 s1 s2 s3 s4 s5 s6 s7 s8 s9 s10;obtain⟨⟨s0,s1,s2,s3,s4,s5⟩,s6,s7,s8,s9,s10⟩:=eleven HSz.u
         try dsimp only
         cases r3
         case false =>
          go_wp2_with fail;go_meet;exact⟨by simp,HBy.u⟩
         go_wp2_with fail;refine(HR4.u _ HBz.u).mono ?_;rintro e w6 ⟨rfl,hb⟩;replace HBz:=mT HBz hb;replace HBy:=mT HBy hb;replace HSz:=mB HSz hb;clear hb s0 s1 s2 s3 s4 s5 s6 s7 s8 s9 s10;obtain⟨⟨s0,s1,s2,s3,s4,s5⟩,s6,s7,s8,s9,s10⟩:=eleven HSz.u
         try dsimp only
         cases r4
         all_goals
          go_wp2_with fail;go_meet;exact⟨by simp,HBy.u⟩
       case rest =>
        obtain⟨rfl,hb⟩:=hcut;have HBv:=mT HBw hb;have HOv:=h_ (q9x HOw.u hb);have hBv:=HBv.u;replace HF:=h_ (HF.u.mono hBv HF.u.lt);replace HS:=mB HS hBv;replace HR:=mB HR hBv;replace HM:=h_ (HM.u.mono hBv);replace HB:=mT HB hBv;replace HSi:=h_ (HSi.u.keep hBv);replace HSh:=h_ (HSh.u.keep hBv);replace HSv:=h_ (HSv.u.keep hBv);replace HSm:=h_ (HSm.u.keep hBv);replace HKs:=h_ (fun g cs h=>(HKs.u g cs h).mono hBv (HKs.u g cs h).lt);have hVl:base<=V.heap.size:=HVl.u;clear hb hBv s0 s1 s2 s3 s4 s5 s6 s7 s8 s9 s10 g0 g1 g2 g3 HF3 HR3 HR1 HR2 HR4 HBz HBy HSz HSw HBw HOw;obtain⟨⟨s0,s1,s2,s3,s4,s5⟩,s6,s7,s8,s9,s10⟩:=eleven HS.u;obtain⟨g0,g1,g2,g3⟩:=quad HF.u;cases hrr:(r1&&r2&&r3&&r4)
        case false =>
         have HX:Hi (addS m last ⟨4,name,other,auto,typ,bys,u⟩=.inl 8):=h_ (by unfold addS;rw[Yi HLa.u,Yi (show ¬ (4:Nat)=1 by decide),Yi (show ¬ (4:Nat)=2 by decide),Yi (show ¬ (4:Nat)=3 by decide),Yi HCp.u,Yi (by simp[HB6.u,HNb.u]),Yi (by have h:=HU9.u;rw[eq_comm,Bool.not_eq_false']at h;rw[h];decide),Yi (by rw[HRs.u,hrr];decide)]);clear hrr;go_wp2_with (refine stR HR.u ?_);have HBq:=h_ (HR.u.rowS (Jb A m).toList);obtain⟨q0,q1,q2,q3⟩:=quad HBq.u;exact bodyPost_ret (v:=.tuple #[.agg (Jb A m),Ya 8]) (by simp[results,Tryz.results13,go_sem,q0,q1,q2,q3]) rfl ⟨(q8i HB.u (by omega) _).mono HB0.u,fun g cs h=>(HKs.u g cs h).rowS_other (fun e=>by have:=h.lt;omega) _,.inl ⟨8,_,HX.u,by decide,⟨_,_,_,_,_,_,_,_,_,_,_,_,rfl⟩,rfl⟩⟩
        have hU:((auto||memB other m.L)&&bys.all fun b=>memB b (rNames m))=true:=(by have h:=HU9.u;rw[eq_comm,Bool.not_eq_false']at h;exact h);obtain⟨lbv,hlbv⟩:∃lbv:Int,(if auto=true then -1 else ((ixN m.L other:Nat):Int))=lbv:=⟨_,rfl⟩;obtain⟨zl,hzl⟩:=Nq ((bys.take k).map (fdI (rNames m)));have hzl2:(bys.map fun b=>((ixN (rNames m) b:Nat):Int))=zl:=by
         rw[<- hzl,HTk.u];rw[Yo,Zh]at hU;exact List.map_congr_left fun b hb=>(fdI_y (hU.2 b hb)).symm
        have HX:Hi (addS m last ⟨4,name,other,auto,typ,bys,u⟩=.inr { m with F:=m.F++[⟨name,((typ:Nat):Int),lbv,zl,u.is,u.wh,u.va,u.sa,u.mu⟩] }):=h_ (by unfold addS;dsimp only;rw[Yi HLa.u,Yi (show ¬ (4:Nat)=1 by decide),Yi (show ¬ (4:Nat)=2 by decide),Yi (show ¬ (4:Nat)=3 by decide),Yi HCp.u,Yi (by simp[HB6.u,HNb.u]),Yi (by rw[hU];decide),Yn (by rw[HRs.u,hrr]),hlbv,hzl2]);have HLb:=h_ hlbv;have HUu:=h_ hU;rw[hzl]at HOv;obtain⟨ac,cc,hv12,-⟩:=q7o HOv.u;subst hv12;have hzb:zl.length<=1048576:=(by rw[<- hzl,Zf,Yu];omega);clear hrr hU hlbv hzl hzl2;go_upto_if 194 with fail
        go_cut [11] from 17 (fun s wx=>s=Ya lbv/\wx=wc)
        case first =>
         as_aux_lemma =>
          have hlb:=HLb.u;cases auto
          . have hmo:memB other m.L=true:=by have:=HUu.u;rw[Yo,Bool.false_or]at this;exact this.1
            have hl2:fdI m.L other=lbv:=(by rw[fdI_y hmo];exact hlb);clear hmo hlb;rw[hl2];go_wp2_with fail;go_meet;exact⟨rfl,rfl⟩
          . obtain rfl:(-1:Int)=lbv:=hlb
            go_wp2_with fail;go_meet;exact⟨rfl,rfl⟩
        case rest =>
         obtain⟨rfl,hw9⟩:=hcut;subst hw9
         as_aux_lemma =>
          have HPl:Hi (P.length=m.F.length):=h_ (by rw[HM.u.e,Zf]);have HG0:=h_ (Blk.new wc 52 Jq);have HGw:=h_ (Blk.new wc 52 Jq);have hb1:=(bR wc.heap.size wc).alloc (nR _) (.cells Jq 52);obtain⟨X1,hX1⟩:=Nq (wc.alloc (.cells Jq 52));rw[hX1]at hb1 HG0;obtain⟨G,hG⟩:=Nq wc.heap.size;have hb2:=q8i hb1 (g:=G) (by omega) (Jp name (typ:Nat) lbv ac zl.length cc ai u.is.length ci ah u.wh.length ch av u.va.length cv u.sa au u.mu.length cu);have hB0:=HG0.u;rw[hG]at hB0;have HG1:=h_ (hB0.rowS (Jp name (typ:Nat) lbv ac zl.length cc ai u.is.length ci ah u.wh.length ch av u.va.length cv u.sa au u.mu.length cu).toList);clear hB0;obtain⟨X2,hX2⟩:=Nq (X1.setRow G (Jp name (typ:Nat) lbv ac zl.length cc ai u.is.length ci ah u.wh.length ch av u.va.length cv u.sa au u.mu.length cu));rw[hX2]at hb2;replace HG1:Hi (Blk X2 G 52 (Jp name (typ:Nat) lbv ac zl.length cc ai u.is.length ci ah u.wh.length ch av u.va.length cv u.sa au u.mu.length cu).toList):=h_ (by rw[<- hX2];exact HG1.u);rw[hG]at HG0;replace HF:=h_ (HF.u.mono hb2 HF.u.lt);replace HR:=mB HR hb2;replace HM:=h_ (HM.u.mono hb2);replace HB:=mT HB hb2;replace HKs:=h_ (fun g cs h=>(HKs.u g cs h).mono hb2 (HKs.u g cs h).lt);have x1:=q9x HOv.u hb2;have x2:=qdi x1 HVl.u;have x3:=HSi.u.keep hb2;have x4:=HSh.u.keep hb2;have x5:=HSv.u.keep hb2;have x6:=HSm.u.keep hb2;have HFo:Hi (FOw X2 base (Fl.mk name ((typ:Nat):Int) lbv zl u.is u.wh u.va u.sa u.mu) (FA.mk ac cc ai ci ah ch av cv au cu)):=h_ (FOw.mk x2 x3 x4 x5 x6);clear x1 x2 x3 x4 x5 x6;clear hb1 hb2;have HGe:=h_ hG;have HX1e:=h_ hX1;have HX2e:=h_ hX2;clear hG hX1 hX2;go_upto_region 53 with fail
          iterate 49 go_step
          refine q5s rfl 52 (.tmp 196) (.tmp 198) (.tmp 199) (.tmp 200) (.tmp 202) (.tmp 204) (.tmp 206) (.tmp 208) (.tmp 210) rfl rfl rfl rfl rfl rfl rfl rfl rfl rfl _ (qfl _ _ _ _ _ _ _ _ _ _ _ _ _ _ _ _ _ _ _) ?_;go_upto_region 54 with (refine stR HGw.u ?_)
          rw[HX1e.u,HGe.u,HX2e.u];clear s0 s1 s2 s3 s4 s5 s6 s7 s8 s9 s10 g0 g1 g2 g3;obtain⟨g0,g1,g2,g3⟩:=quad HF.u;obtain⟨y0,y1,y2,y3,y4,y5,y6,y7,y8⟩:=nine HG1.u;have HNs:Hi (Blk _ _ 52 (fCs (Fl.mk name ((typ:Nat):Int) lbv zl u.is u.wh u.va u.sa u.mu) (FA.mk ac cc ai ci ah ch av cv au cu))):=h_ (Blk.new X2 52 (Jp name (typ:Nat) lbv ac zl.length cc ai u.is.length ci ah u.wh.length ch av u.va.length cv u.sa au u.mu.length cu));have hb:=(bR X2.heap.size X2).alloc (nR _) (.cells (Jp name (typ:Nat) lbv ac zl.length cc ai u.is.length ci ah u.wh.length ch av u.va.length cv u.sa au u.mu.length cu) 52);have HM2:=h_ (HM.u.mono hb);have HF2:=h_ (HF.u.mono hb HF.u.lt);have HR2:=mB HR hb;have HB2:=mT HB hb;have HFo2:=h_ (HFo.u.mono hb);have HK2:Hi (∀g cs,Blk w g 44 cs->Blk _ g 44 cs):=h_ (fun g cs h=>(HKs.u g cs h).mono hb (HKs.u g cs h).lt);clear hb
          iterate 10 go_step
          refine qfj rfl (.tmp 214) rfl rfl ?_;at_builtin;refine qb4 (l:=P) (n:=((Fl.mk name ((typ:Nat):Int) lbv zl u.is u.wh u.va u.sa u.mu),(FA.mk ac cc ai ci ah ch av cv au cu))) rfl _ _ rfl rfl HM2.u.f.row rfl HNs.u (by have:=HPl.u;omega) (by have:=HB0.u;have:=HB2.u.size;omega) ?_;intro v9 W9 ho9 hg9 hb9;have HM9:=h_ (HM2.u.addF (x:=((Fl.mk name ((typ:Nat):Int) lbv zl u.is u.wh u.va u.sa u.mu),(FA.mk ac cc ai ci ah ch av cv au cu))) (by first | exact ho9 | (rw[Yf];exact ho9)) hg9 HFo2.u);have HF9:=h_ (HF2.u.grown hg9 (fun e=>qdg HM2.u.f.row HF2.u (by decide) e.symm));have HR9:=h_ (HR2.u.grown hg9 (fun e=>qdg HM2.u.f.row HR2.u (by decide) e.symm));have HK9:Hi (∀g cs,Blk w g 44 cs->Blk W9 g 44 cs):=h_ (fun g cs h=>(HK2.u g cs h).grown hg9 (fun e=>qdg HM2.u.f.row (HK2.u g cs h) (by decide) e.symm));have HB9:=h_ ((HB2.u.mono HB0.u).trans hb9);obtain⟨a9,c9,hv9,-⟩:=q7o ho9;subst hv9;have fr0:=HF9.u.free 3;obtain⟨g0',g1',g2',g3'⟩:=quad HF9.u;have HFs:=h_ (HF9.u.set 3 (.slice a9 (P.length+1) c9));have HMs:=h_ (HM9.u.one HF9.u (by decide) (by decide) (by decide) (by decide) (by decide) (by decide) (qaj W9 w.heap.size 3 (.slice a9 (P.length+1) c9)));have HRs:=h_ (HR9.u.other (a:=⟨w.heap.size,3,none⟩) (.slice a9 (P.length+1) c9) (by show w.heap.size+1+1≠w.heap.size;omega));have HBs:=h_ (HB9.u.setCell (p:=⟨w.heap.size,3,none⟩) HB0.u (.slice a9 (P.length+1) c9));have HKt:Hi (∀g cs,Blk w g 44 cs->Blk _ g 44 cs):=h_ (fun g cs h=>(HK9.u g cs h).other (a:=⟨w.heap.size,3,none⟩) (.slice a9 (P.length+1) c9) (fun e=>by have:=h.lt;simp only at e;omega));clear ho9 hg9 hb9 g0 g1 g2 g3 y0 y1 y2 y3 y4 y5 y6 y7 y8;obtain⟨X,hX⟩:=Nq (W9.setCell ⟨w.heap.size,3,none⟩ (.slice a9 (P.length+1) c9));rw[hX]at HFs HMs HRs HBs HKt;obtain⟨q0,q1,q2,q3⟩:=quad HFs.u;go_upto_region 55 with fail
          go_wp2_with ((try rw[hX]);refine stR HRs.u ?_);have HBq:=h_ (HRs.u.rowS #[.slice A.l m.L.length A.lc,.slice A.p m.P.length A.pc,.slice A.r m.R.length A.rc,.slice a9 (P.length+1) c9].toList);obtain⟨p0,p1,p2,p3⟩:=quad HBq.u;have HMe:=h_ (HMs.u.one HRs.u (by decide) (by decide) (by decide) (by decide) (by decide) (by decide) (qe2 X (w.heap.size+1+1) #[.slice A.l m.L.length A.lc,.slice A.p m.P.length A.pc,.slice A.r m.R.length A.rc,.slice a9 (P.length+1) c9]));refine bodyPost_ret (v:=.tuple #[.agg #[.slice A.l m.L.length A.lc,.slice A.p m.P.length A.pc,.slice A.r m.R.length A.rc,.slice a9 (P.length+1) c9],Ya 0]) ?_ rfl ?_
          . simp[results,Tryz.results13,go_sem,p0,p1,p2,p3]
          . refine⟨q8i HBs.u (by have:=HB0.u;omega) _,fun g cs h=>(HKt.u g cs h).rowS_other (fun e=>by have:=h.lt;omega) _,.inr ?_⟩
            refine Exists.intro { m with F:=m.F++[(Fl.mk name ((typ:Nat):Int) lbv zl u.is u.wh u.va u.sa u.mu)] } ?_;refine Exists.intro (.slice A.l m.L.length A.lc) ?_;refine Exists.intro (.slice A.p m.P.length A.pc) ?_;refine Exists.intro (.slice A.r m.R.length A.rc) ?_;refine Exists.intro (.slice a9 (P.length+1) c9) ?_;refine Exists.intro (P++[((Fl.mk name ((typ:Nat):Int) lbv zl u.is u.wh u.va u.sa u.mu),(FA.mk ac cc ai ci ah ch av cv au cu))]) ?_;refine And.intro ?_ (And.intro ?_ ?_)
            . exact HX.u
            . rfl
            . have h:=HMe.u
              rw[Yf,Va]at h;exact h
    case pos =>
     have hlt':(k:Int)<(bys.length:Int):=(by omega);obtain⟨t,ht⟩:=Nq (bys[k]);obtain⟨q,hq⟩:∃q,decide (¬ fdI bys t=(k:Int))=q:=⟨_,rfl⟩;have HTq:=h_ ht;have HQq:=h_ hq;have hne:(fdI bys t != (k:Int))=q:=(by rw[<- hq,Zj];simp);have HSt:=h_ (HSb.u.keep HBw.u);clear hq ht;go_upto_region 41 with fail
     go_cut [153] from 137 to 167 (fun s wx=>s=.bool q/\Below wr.heap.size wr wx)
     case first =>
      as_aux_lemma =>
       obtain⟨ab',cb',e9,-,hst⟩:=HSt.u.strs;cases e9;obtain⟨b',o',rfl,hbl',z⟩:=hst k hlt;rw[HTq.u]at z;have hbd:Below wr.heap.size wr wr.drew:=(bR _ _).drew;have HD8:=h_ hbd;have HFb:=h_ (q9j (some ⟨b',o',none⟩) cb bys t wr.drew (by omega) (hst.mono hbd));have HS9:Hi (wr.drew.cell? ⟨w.heap.size+1,5,none⟩=some (.slice (some ⟨b',o',none⟩) bys.length cb)/\wr.drew.cell? ⟨b',o'+k,none⟩=some (.string t)):=h_ ⟨s5,z⟩;clear hbd hst;refine wp_region_held_drew (S:=fun w'=>w'.cell? ⟨w.heap.size+1,5,none⟩=some (.slice (some ⟨b',o',none⟩) bys.length cb)/\w'.cell? ⟨b',o'+k,none⟩=some (.string t)) (by kernel_rfl) HS9.u (fun zz=>?_);refine tj 0 144 (Yd (w.heap.size+1) 5) zz ?_;refine tj 1 145 (.slice (some ⟨b',o',none⟩) bys.length cb) zz ?_ (hy:=fun w hS=>by simp[execOp,go_sem,hS.1]);refine tj 2 146 (Yd (w.heap.size+1) 5) zz ?_;refine tj 3 147 (.slice (some ⟨b',o',none⟩) bys.length cb) zz ?_ (hy:=fun w hS=>by simp[execOp,go_sem,hS.1]);simp only[sX,sY,sZ];refine tj 4 148 (Ya k) zz ?_;refine tj 5 149 (Yd b' (o'+k)) zz ?_;refine tj 6 150 (.string t) zz ?_ (hy:=fun w hS=>by simp[execOp,go_sem,hS.2]);refine tj 8 152 (Ya k) zz ?_;simp only[sX,sY,sZ];refine callY (i:=7) (f:=50) (args:=#[.slice (some ⟨b',o',none⟩) bys.length cb,.string t]) (R:=fun v wz=>v=Ya (fdI bys t)/\wz=wr.drew) 151 rfl rfl (by rfl) (by kernel_rfl) (by simp[execOp,go_sem]) (HFb.u.mono fun e w6 ⟨he,hb⟩=>⟨_,he,rfl,hb⟩) ?_;rintro v W6' ⟨rfl,rfl⟩;refine⟨HS9.u,?_⟩;simp only[sX,sY,sZ];refine tj 9 153 (.bool q) zz ?_ (hy:=fun w hS=>by simp[execOp,go_sem];first | exact hne | (rw[<- hne];simp[bne]));simp only[sX,sY,sZ];refine wpAnyH_done (by kernel_rfl) ?_ _;clear zz;go_wp2_with fail;go_meet;exact⟨rfl,HD8.u⟩
     case rest =>
      obtain⟨rfl,hb⟩:=hcut;have HBr:=mT HBw hb;have HOr:=h_ (q9x HOw.u hb);have HSt2:=h_ (HSt.u.keep hb);clear hb s0 s1 s2 s3 s4 s5 s6 s7 s8 s9 s10;have HSr:=h_ (HS.u.mono HBr.u HS.u.lt);obtain⟨⟨s0,s1,s2,s3,s4,s5⟩,s6,s7,s8,s9,s10⟩:=eleven HSr.u;cases q
      case true =>
       as_aux_lemma =>
        have hnd:¬ bys.Nodup:=fun h=>by
         have h1:=Ze HQq.u;have h2:=(qc8 hlt HNd.u).2 (h.sublist (List.take_sublist _ _));rw[HTq.u]at h2;exact h1 h2
        have HX:Hi (addS m last ⟨4,name,other,auto,typ,bys,u⟩=.inl 6):=h_ (by unfold addS;rw[Yi HLa.u,Yi (show ¬ (4:Nat)=1 by decide),Yi (show ¬ (4:Nat)=2 by decide),Yi (show ¬ (4:Nat)=3 by decide),Yi HCp.u,Yn (by simp[hnd])]);replace HF:=h_ (HF.u.mono HBr.u HF.u.lt);replace HR:=h_ (HR.u.mono HBr.u HR.u.lt);replace HKs:=h_ (fun g cs h=>(HKs.u g cs h).mono HBr.u (HKs.u g cs h).lt);replace HB:=h_ (HB.u.trans (HBr.u.mono HB.u.size));obtain⟨g0,g1,g2,g3⟩:=quad HF.u;clear hnd;go_wp2_with (refine stR HR.u ?_);have HBq:=h_ (HR.u.rowS (Jb A m).toList);obtain⟨q0,q1,q2,q3⟩:=quad HBq.u;exact bodyPost_ret (v:=.tuple #[.agg (Jb A m),Ya 6]) (by simp[results,Tryz.results13,go_sem,q0,q1,q2,q3]) rfl ⟨(q8i HB.u (by omega) _).mono HB0.u,fun g cs h=>(HKs.u g cs h).rowS_other (fun e=>by have:=h.lt;omega) _,.inl ⟨6,_,HX.u,by decide,⟨_,_,_,_,_,_,_,_,_,_,_,_,rfl⟩,rfl⟩⟩
      case false =>
       as_aux_lemma =>
        have HNd2:Hi ((bys.take (k+1)).Nodup):=h_ ((qc8 hlt HNd.u).1 (by
         have h1:=of_decide_eq_false HQq.u;rw[HTq.u];exact Decidable.not_not.1 h1))
        obtain⟨ab',cb',e9,-,hst⟩:=HSt2.u.strs;cases e9;obtain⟨b',o',rfl,-,z⟩:=hst k hlt;rw[HTq.u]at z;clear hst;go_wp2_with fail;refine(HFd.u t _ (HRo.u.mono HBr.u)).mono ?_;rintro e w2 ⟨rfl,hwe⟩;subst hwe;have HTk2:Hi (bys.take (k+1)=bys.take k++[t]):=h_ (by rw[Yq hlt,HTq.u]);obtain⟨C,hC⟩:=Nq (k+1);have hkC:(k:Int)+1=(C:Nat):=(by omega);have hCb:C<=1048576:=(by omega);have HCe:=h_ hC;obtain⟨fv,hfv⟩:=Nq (fdI (rNames m) t);have HNs:Hi (Blk _ _ 3 [Ya fv]):=h_ (Blk.new w2 3 #[Ya fv]);have hba:=(bR w2.heap.size w2).alloc (nR _) (.cells #[Ya fv] 3);obtain⟨zl,hzl⟩:=Nq ((bys.take k).map (fdI (rNames m)));have hzk:zl.length=k:=(by rw[<- hzl,Zf,Yu];omega);have HZl:=h_ hzl;rw[hzl]at HOr;clear hzl;have HOa:=h_ (q9x HOr.u hba);have HBa:=mT HBr hba;have HMl:Hi (zl.length+1<=2097152):=h_ (by omega);clear hzk;have HFv:=h_ hfv;rw[hfv];clear hba hC;cases hme:memB t (rNames m)
        all_goals
         have HU:Hi ((un||(bys.take (k+1)).any fun b=>!memB b (rNames m))=(un||((bys.take k).any (fun b=>!memB b (rNames m))||!memB t (rNames m)))):=h_ (by rw[HTk2.u,List.any_append];simp);rw[hme]at HU
        case false =>
         have hlt0:fv<0:=(by rw[<- hfv,fdI_n hme];decide);clear hfv hme;go_wp2_with (at_builtin;refine qb5 (n:=fv) rfl _ _ rfl rfl HOa.u rfl HNs.u HMl.u HBa.u.size ?_);intro v9 W9 ho9 _ hb9;have HO9:=h_ ho9;have HB9:=h_ (HBa.u.trans hb9);clear ho9 hb9;go_wp2_with fail;go_roundw
         case rel =>
          refine⟨C,rfl,by have:=HCe.u;omega,?_,?_,?_,HB9.u⟩
          . rw[<- HCe.u,HU.u];simp
          . rw[<- HCe.u];exact HNd2.u
          . rw[<- HCe.u,HTk2.u,Zt,List.map_singleton,HFv.u,HZl.u];unfold OwI;rw[Yf];exact HO9.u
         case measure=>simp[intOf];have:=HCe.u;omega
        case true =>
         have hlt0:¬ fv<0:=(by rw[<- hfv,fdI_y hme];omega);clear hfv hme;go_wp2_with (at_builtin;refine qb5 (n:=fv) rfl _ _ rfl rfl HOa.u rfl HNs.u HMl.u HBa.u.size ?_);intro v9 W9 ho9 _ hb9;have HO9:=h_ ho9;have HB9:=h_ (HBa.u.trans hb9);clear ho9 hb9;go_wp2_with fail;go_roundw
         case rel =>
          refine⟨C,rfl,by have:=HCe.u;omega,?_,?_,?_,HB9.u⟩
          . rw[<- HCe.u,HU.u];simp
          . rw[<- HCe.u];exact HNd2.u
          . rw[<- HCe.u,HTk2.u,Zt,List.map_singleton,HFv.u,HZl.u];unfold OwI;rw[Yf];exact HO9.u
         case measure=>simp[intOf];have:=HCe.u;omega
end Go.Proofs.YtfmammdgehbjhaaGreatDoor
