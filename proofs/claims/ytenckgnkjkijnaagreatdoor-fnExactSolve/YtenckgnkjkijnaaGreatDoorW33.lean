import Derived.Test.YtenckgnkjkijnaaGreatDoorW27
import Derived.Test.YtenckgnkjkijnaaGreatDoorW20
import Derived.Test.YtenckgnkjkijnaaGreatDoorW25
import Derived.Laws.AppendOwnNone
set_option maxRecDepth 100000
set_option maxHeartbeats 64000000
namespace Go.Proofs.YtenckgnkjkijnaaGreatDoor
open Go Go.RowKit Go.Proofs.Tryz
variable {W:Tw}{n:Nat}{m:Fm}{t e:TypeId}{v:Value}
theorem kfO:Go.Proofs.Lays.n166 prog Tryz.lays156_ren :=
 have a:=Tryz.lays156
 { mixed:=a.mixed,f166:=a.f166,f240:=a.f240,f276:=a.f276,t0:=a.t0,a0:=a.a0,z0:=a.z0,v0:=a.v0,t3:=a.t3,a3:=a.a3,z3:=a.z3,v3:=a.v3,t4:=a.t4,a4:=a.a4,z4:=a.z4,v4:=a.v4,t9:=a.t9,a9:=a.a9,z9:=a.z9,v9:=a.v9,t20:=a.t20,a20:=a.a20,z20:=a.z20,v20:=a.v20,t37:=a.t37,a37:=a.a37,z37:=a.z37,v37:=a.v37,t70:=a.t70,a70:=a.a70,z70:=a.z70,v70:=a.v70,t72:=a.t72,a72:=a.a72,z72:=a.z72,v72:=a.v72,t75:=a.t75,a75:=a.a75,z75:=a.z75,v75:=a.v75,t164:=a.t164,a164:=a.a164,z164:=a.z164,v164:=a.v164 }
def Bl (w:Tw)(B b:Nat)(l:List UInt8):Prop:=Lib.IsBuilderF 285 5 B b (Lib.byteCells l) w
theorem q76 {B b:Nat}{p:Value}{bs:Tl}{w:Tw}(c:Lib.BuilderAtF t e B b p bs w)(a:Bw w W):Lib.BuilderAtF t e B b p bs W:=by
 have g:=c.lt;obtain⟨d,l,j,i,h⟩:=c;exact⟨d,l,(a.block b g).trans j,i.kept (row:=none) ⟨a.os,a.tape,a.output,a.size,fun k f _=>a.block k f⟩ (Classical.em _),h⟩
theorem Bl.mono {w w':Tw}{B b:Nat}{l:List UInt8}(d:Bl w B b l)(c:Bw w w'):Bl w' B b l :=
 d.elim (fun a=>.inl (q76 a c)) (fun a=>.inr (q76 a c))
theorem Bl.le {w:Tw}{B b:Nat}{l:List UInt8}(a:Bl w B b l):B<=w.heap.size:=by
 rcases a with a | a
 . have:=a.lt;have:=a.1;omega
 . have:=a.lt;have:=a.1;omega
theorem qe4 (l:List UInt8)(s:Tb):Lib.byteCells l++Lib.strCells s=Lib.byteCells (l++sb s):=by
 unfold Lib.byteCells Lib.strCells sb;rw[Zl]
def Oth (b:Nat)(w w':Tw):Prop:=Lib.OthersKept 5 (some b) w w'
theorem qge {b:Nat}{w w':Tw}(c:Bw w w'):Oth b w w':=fun d _ a _ _=>(c.block d (Yq.1 a).1).trans a
theorem Blk.oth {w w':Tw}{g b:Nat}{cs:Tl}(c:Blk w g t cs)(e:Oth b w w')(d:g≠b)(f:t≠5):Blk w' g t cs:=e g _ c (fun a=>d (Z3 a)) (fun h h a=>f (by cases a;rfl))
theorem q20 (B b:Nat)(l:List UInt8)(s:Tb)(w:Tw)(c:Bl w B b l)(g:l.length+s.size<=140737488355328) :
 Calls prog 299 #[J9 b 0,.string s] w fun d a=>d=.returned (.tuple #[J6 s.size,.nilIface])/\Bl a B b (l++sb s)/\Below B w a/\Oth b w a :=
 (Any.Builder_WriteString_k kfO Tryz.Builder_Extra_156 B b (Lib.byteCells l) s w c (by unfold Lib.byteCells;rw[Zp];exact g) c.le).mono fun _ _ ⟨a,d,e,f⟩=>⟨a,.inr (by rw[<- qe4];exact d),e,f⟩
def jw (l:List Tb):List UInt8:=Lib.join (l.map sb) [32]
theorem q3h (a:To)(c:Nat)(l:List Tb)(w:Tw)(o:1<=l.length)(p:l.length<=100000)(b:l.length<=c)(d:kbY w a l)(j:(jw l).length<=140737488355328) :
 Gv 300 #[.slice a l.length c,.string ⟨#[32]⟩] w (.string ⟨(jw l).toArray⟩):=by
 obtain⟨e,m,rfl,h,-⟩:=d 0 (by omega);exact Tryz.strings_Join e m c l ⟨#[32]⟩ w (fun k f g=>by
  obtain⟨i,f⟩:=List.getElem?_eq_some_iff.1 g;obtain⟨n,q,g,-,b⟩:=d k i;cases g;rw[b,f]) h (by omega) b j
theorem q0b (B b:Nat)(t:List UInt8)(a:To)(c:Nat)(l:List Tb)(w:Tw)(m:Bl w B b t)(D:1<=l.length)(E:l.length<=100000)(J:l.length<=c)(G:kbY w a l)(N:t.length+(jw l).length<=100000000) :
 Calls prog 241 #[J9 b 0,.slice a l.length c] w fun e d=>e=.returned (.tuple #[])/\Bl d B b (t++(jw l++[59,10]))/\Below B w d/\Oth b w d:=by
 have i:=h_ (q3h a c l w D E J G (by omega));obtain⟨e,v⟩:=oB m m.le;obtain⟨d,g⟩:∃d:Tb,⟨(jw l).toArray⟩=d:=⟨_,rfl⟩;have F:d.size=(jw l).length:=by rw[<- g];rfl
 have z:Hi (sb d=jw l):=h_ (by rw[<- g];rfl);rw[g]at i;obtain⟨k,j⟩:=oB F N;go_enter func241,ntmps241;go_wp2_with fail;refine cQ i fun A n=>?_;have h:=h_ n;replace e:=h_ (e.mono n);go_wp2_with fail;refine(q20 B b t d A e (by have:=k.u;have:=j.u;omega)).mono ?_;rintro O C ⟨rfl,K,H,L⟩;obtain⟨r,p,x⟩:=oC K H (Lib.OthersKept.trans (qge (b:=b) h) L);go_wp2_with fail;refine(q20 B b _ ⟨#[59,10]⟩ C r (by rw[Yj,kbt];show t.length+d.size+2<=_;have:=k.u;have:=j.u;omega)).mono ?_;rintro O f ⟨rfl,o,I,M⟩;have y:Hi (Oth b w f):=h_ (Lib.OthersKept.trans x M);have s:Hi (Bl f B b (t++(jw l++[59,10]))):=h_ (by rw[z.u]at o;rw[<- Vy];exact o);have q:Hi (Below B w f):=h_ (((h.mono v).trans p).trans I);go_wp2_with fail
 go_end0
 exact⟨rfl,s,q,y⟩
theorem qpt (x:Tb)(l:List Tb):jw (x :: l)=sb x++l.flatMap (fun a=>32 :: sb a):=by
 unfold jw;rw[Z5,Lib.join_cons];unfold Lib.joinTail;rw[List.map_map,List.flatMap_def];rfl
def rW (word:Tb)(l:List Nx):List Tb:=if l.length=0 then [] else [word,txL l]
def lbT (m:Fm)(f:Fl):Tb:=if f.lb<0 then ⟨#[97,117,116,111]⟩ else kbA m.L f.lb
def w5 (m:Fm)(f:Fl):List Tb:=[⟨#[102,105,101,108,100]⟩,f.nm,⟨(kbs f.ty).toArray⟩,⟨#[97,116]⟩,lbT m f]
def byW (rs:List Rl)(i:Int):List Tb:=[⟨#[98,121]⟩,(kdS rs i).nm]
def syW (f:Fl):List Tb:=if f.va.length=0 then [] else [⟨#[115,97,121,115]⟩,⟨#[34]⟩++f.sy++⟨#[34]⟩]
def fW (m:Fm)(f:Fl):List Tb:=w5 m f++(f.bys.flatMap (byW m.R)++(rW ⟨#[105,115]⟩ f.is++(rW ⟨#[119,104,101,110]⟩ f.wh++(rW ⟨#[118,97,108,105,100]⟩ f.va++(syW f++rW ⟨#[109,117,115,116]⟩ f.mu)))))
theorem qrn (word:Tb)(l:List Nx):(rW word l).flatMap (fun a=>32 :: sb a)=kbc (sb word) l:=by
 unfold rW kbc;split
 . rfl
 . simp
theorem khL (m:Fm)(f:Fl):jw (fW m f)++[59,10]=keP m f:=by
 have b:(f.bys.flatMap (byW m.R)).flatMap (fun a=>32 :: sb a)=f.bys.flatMap (tBy m.R):=by
  rw[List.flatMap_assoc]
  congr 1
  funext i
  simp[byW,tBy,kbw]
 have c:(syW f).flatMap (fun a=>32 :: sb a)=kdc f:=by
  unfold syW kdc;split
  . rfl
  . simp[qgw,kbw]
 have a:sb (lbT m f)=if f.lb<0 then [97,117,116,111] else sb (kbA m.L f.lb):=by
  unfold lbT;split <;> rfl
 unfold fW w5;simp only[Zw,Vr];rw[qpt];simp only[Va,V7,b,c,qrn];rw[a];unfold keP kcg;simp[kbw,wIs,kdr,kcB,kdV]
theorem kgM (x:Tb):jw [⟨#[108,97,98,101,108]⟩,x]++[59,10]=kdT x:=by
 rw[qpt];simp[kdT,kbw]
theorem kgN (a:List Tb)(p:Int × Int):jw [⟨#[98,101,108,111,119]⟩,kbA a p.1,kbA a p.2]++[59,10]=kdU a p:=by
 rw[qpt];simp[kdU,kbw]
theorem kgO (a:List Tb)(r:Rl):jw [⟨#[114,111,108,101]⟩,r.nm,⟨#[97,116]⟩,kbA a r.lb]++[59,10]=kd1 a r:=by
 rw[qpt];simp[kd1,kbw]
theorem kb9 (word:Tb)(l:List Nx):(rW word l).length<=2:=by unfold rW;split <;> simp
theorem qsc (f:Fl):(syW f).length<=2:=by unfold syW;split <;> simp
theorem qng (rs:List Rl)(l:List Int):(l.flatMap (byW rs)).length=2*l.length:=by
 induction l with
 | nil=>rfl
 | cons c b a=>simp only[Va,Yj,a,Yt];simp[byW];omega
theorem kgP (c:VfA m){f:Fl}(a:FOk m.L.length m.R.length f):(fW m f).length<=200:=by
 have d:=qdz a.b;have e:=c.nr;have g:=kb9 ⟨#[105,115]⟩ f.is;have h:=kb9 ⟨#[119,104,101,110]⟩ f.wh;have i:=kb9 ⟨#[118,97,108,105,100]⟩ f.va;have j:=kb9 ⟨#[109,117,115,116]⟩ f.mu;have k:=qsc f;have l:=qng m.R f.bys;have n:(w5 m f).length=5:=rfl;unfold fW;simp only[Yj];omega
def Wds (w:Tw)(v:Value)(l:List Tb):Prop:=(v=.slice none 0 0/\l=[])∨∃g c,v=.slice (some ⟨g,0,none⟩) l.length c/\g<w.heap.size/\∀j x,l[j]? = some x->w.cell? ⟨g,j,none⟩=some (.string x)
theorem qav (w:Tw)(r:Option Nat):w.grownBy w r:=⟨rfl,rfl,rfl,nR _,fun _ _ _=>rfl⟩
theorem q07 {w:Tw}{r:Array Oper}{rest:List Oper}{o:Oper}{a:Act}{Q:Exit->Act->Tw->Prop}(j:o.guard=none)(s x:Operand)
 (m:o.op=.call { callee:=.builtin .append,args:=#[s,x],argTypes:=#[22,22] }) (base:Nat) (v:Value) (b:List Tb) (n:a.eval s=v) (h:w.ownsRow base 9 1 v b.length (stV b))
 (t:Value) (l:List Tb) (p:a.eval x=t) (A:Wds w t l) (H:b.length+l.length<=1000000) (B:base<=w.heap.size)
 (i:∀f e,e.ownsRow base 9 1 f (b++l).length (stV (b++l))->w.grownBy e v.ownBlock->wpList prog r Q rest (a.put o.dst f) e):wpList prog r Q (o :: rest) a w:=by
 obtain⟨q,k,D,E,F⟩:=info_parts qjq;rcases A with ⟨rfl,rfl⟩ | ⟨g,y,rfl,I,C⟩
 . refine wpList_append_own_none j s x 22 m base 9 q 1 underlying22 k v b.length (stV b) n h p ?_
   exact i v w (by simpa using h) (qav _ _)
 . refine wpList_append_own w j s x 22 m base 9 q _ 1 16 underlying22 k D E F rfl (by omega) v b.length (stV b) n h ⟨g,0,none⟩ l.length y (stV l) p (by simp[stV]) (fun d G c=>?_) (fun G c=>?_) (by unfold maxLen;omega) (by omega) B (fun f e u z _=>i f e (by rw[Yj];simpa [stV] using u) z)
   . unfold stV at c
     rw[Zj]at c;cases e:l[d]? with
     | none=>rw[e]at c;cases c
     | some u =>
      rw[e]at c;cases c;have:=C d u e;rw[show(⟨g,0,none⟩:Addr).add d=⟨g,d,none⟩ by
       by_cases f:d=0
       . subst f;simp[Addr.add]
       . simp[Addr.add,f]]
      exact this
   . obtain⟨u,-,rfl⟩:=Y4.1 c
     rfl
theorem qsx (w:Tw)(l:List Tb)(c:Nat):Wds (w.alloc (.cells (stV l).toArray 9)) (.slice (some ⟨w.heap.size,0,none⟩) l.length c) l:=by
 refine .inr ⟨w.heap.size,c,rfl,by simp,fun b d a=>?_⟩;have:=(Blk.new w 9 (stV l).toArray).cell b;rw[this];simp[stV,a]
theorem q4c (word:Tb)(a:To)(c:Nat)(l:List Nx)(w:Tw)(f:kac l=true)(p:l.length<=9223372036854775807)(n:kb0 w a l)(o:∀b,b<l.length->Fit (nf l b))(g:kbT w) :
 Calls prog 301 #[.string word,.slice a l.length c] w fun e d=>∃b,e=.returned b/\Wds d b (rW word l)/\Bw w d:=by
 by_cases b:l.length=0
 . have m:((l.length:Int)==0)=true:=by simp[b]
   rw[show rW word l=[] by unfold rW;rw[Yr b]];go_enter func301,ntmps301;go_wp2_with fail;go_ret;exact⟨_,rfl,.inl ⟨rfl,rfl⟩,bR _ _⟩
 . have m:((l.length:Int)==0)=false:=Yc.2 (by omega)
   have q:vxL l=true:=by simp only[kac,Ze,Yk]at f;exact f.resolve_left b
   have e:=h_ (q0j a l.length c (nf l) w p n o g.ws g.pw);rw[show vxB (nf l) l.length=true from q,Yr rfl,show(top (nf l) l.length).t=txL l from rfl]at e;rw[show rW word l=[word,txL l] by unfold rW;rw[Yl b]];generalize txL l=h at *;go_enter func301,ntmps301;go_wp2_with fail;refine cQ e fun k d=>?_;obtain⟨r,j,i⟩:=oC d (qsx k [word,h] 2) (d.alloc d.size (.cells #[.string word,.string h] 9));go_wp2_with fail;go_ret;exact⟨_,rfl,j,i⟩
def TyW (w:Tw):Prop:=0<w.heap.size/\∀k:Nat,1<=k->k<=3->w.cell? ⟨0,k,none⟩=some (.string ⟨(kbs k).toArray⟩)
theorem TyW.mono {w w':Tw}(b:TyW w)(c:Bw w w'):TyW w':=⟨Yn b.1 c.size,fun f d e=>(c.cell b.1).trans (b.2 f d e)⟩
section
variable {md:Region.Mode} {ops:Array Oper} {Q:Exit->Act->Tw->Prop} {S:Tw->Prop} {o:Oper} {a:Act} {fuel:Nat} {listed:Array Bool} {i:Nat} {w w':Tw}
theorem kf2 (b:Tmp)(hi:ops[i]? = some o)(e:o.dst=some b)(g:Region.wanted o (yielded ops a.tmps)=true)(f:Region.ready md ops listed=[i])
 (hrun:(execOp a.eval o).run prog w=.ok (.value v) w') (d:S w') (c:wpAnyH prog md ops Q S fuel (listed.setIfInBounds i true) { tmps:=a.tmps.setIfInBounds b v,defers:=a.defers } w'):wpAnyH prog md ops Q S (fuel+1) listed a w :=
 wpAnyH_ready f (by simp) (kaD b hi e g hrun d c AllReadyH.nil)
end
theorem qcb (w:Tw)(l:List Tb)(b:l.length<=1000000):(w.alloc (.cells (stV l).toArray 9)).ownsRow w.heap.size 9 1 (.slice (some ⟨w.heap.size,0,none⟩) l.length l.length) l.length (stV l) :=
 ⟨by simp[stV],.inr ⟨w.heap.size,l.length,(stV l).toArray,rfl,nR _,(MapKept.heap_alloc w _).1,nR _,by unfold maxLen;omega,by simp[stV],by rw[Yy (by simp[stV])]⟩⟩
theorem qdu {w w':Tw}{base:Nat}{xs:Tl}(c:Below base W w)(e:w.ownsRow base 9 1 v n xs)(d:w.grownBy w' v.ownBlock)(f:base<=w.heap.size):Below base W w':=c.grown d f (fun _ b=>qc8 e b)
theorem qgf {w w':Tw}{base:Nat}{xs:Tl}(c:w.ownsRow base 9 1 v n xs)(b:Bw w w'):w'.ownsRow base 9 1 v n xs :=
 c.kept (row:=none) ⟨b.os,b.tape,b.output,b.size,fun e d _=>b.block e d⟩ (Classical.em _)
theorem q2c (m:Fm)(A:MA)(f:Fl)(aK:FA)(w:Tw)(t:VfA m)(b:FOk m.L.length m.R.length f)(j:kd2 f)(h:MSl w m A)(k:FSl w f aK)(r:kbT w)(hy:TyW w) :
 Calls prog 242 #[mV m A,fV f aK] w fun s w'=>∃c g,s=.returned (.slice c (fW m f).length g)/\(fW m f).length<=g/\kbY w' c (fW m f)/\Bw w w':=by
 obtain⟨al,ay,ap,aH,ar,aI,af,aG,b9⟩:=A;obtain⟨ab,ad,ai,ax,ah,aw,av,az,au,ae⟩:=aK;unfold mV fV;dsimp only;obtain⟨H,d⟩:=oB ((Blk.new w 37 (Jb al m ay ap aH ar aI af aG)).alloc (.cells (Ja f ab ad ai ax ah aw av az au ae) 92)) (Blk.new (w.alloc (.cells (Jb al m ay ap aH ar aI af aG) 37)) 92 (Ja f ab ad ai ax ah aw av az au ae));rw[Yp]at d;have n:=h_ (((bR w.heap.size w).alloc (nR _) (.cells (Jb al m ay ap aH ar aI af aG) 37)).alloc (by simp) (.cells (Ja f ab ad ai ax ah aw av az au ae) 92));obtain⟨W0,e⟩:=Nq ((w.alloc (.cells (Jb al m ay ap aH ar aI af aG) 37)).alloc (.cells (Ja f ab ad ai ax ah aw av az au ae) 92));rw[e]at H d n;obtain⟨HS,I,J,aq⟩:=oD (h.mono n) (k.mono n) (r.mono n) (hy.mono n);obtain⟨HV,D,q⟩:=oC t b j;obtain⟨B,c,bY,bZ⟩:∃B:Nat,f.ty=B/\1<=B/\B<=3:=⟨f.ty.toNat,by have:=b.t1;omega,by have:=b.t1;omega,by have:=b.t2;omega⟩;clear h k r hy t b j;obtain⟨y0,j,k,r⟩:=kaf H;obtain⟨G,C,x,y,N,O,P,T,U⟩:=kaU d;have g:=aq.2 B bY bZ;rw[<- c]at g;obtain⟨z,b⟩:∃z:Tb,⟨(kbs f.ty).toArray⟩=z:=⟨_,rfl⟩;rw[b]at g;have bA:=h_ b;rw[c]at C;have ch:(B:Int)<4:=by omega
 have b8:=h_ c;clear b c;go_enter func242,ntmps242;go_wp2_with fail
 try rw[e]
 clear e;refine wp_region_held_drew (S:=fun w'=>w'.cell? ⟨w.heap.size+1,0,none⟩=some (.string f.nm)/\w'.cell? ⟨w.heap.size+1,1,none⟩=some (J6 B)/\w'.cell? ⟨0,B,none⟩=some (.string z)) (by kernel_rfl) ⟨G,C,g⟩ (fun c=>?_);refine tkA 0 c ?_;refine tkA 1 c ?_;refine tkA 2 c ?_;refine tkA 3 c ?_;refine tkA 4 c ?_;refine tkA 5 c ?_;have e:Hi (Bw W0 W0.drew):=h_ (bR _ _).drew;replace H:=h_ (H.mono e H.lt);replace d:=h_ (d.mono e d.lt);replace HS:=h_ (HS.mono e);replace I:=h_ (I.mono e);replace J:=h_ (J.mono e);replace aq:=h_ (aq.mono e);replace n:=h_ (n.trans (e.mono n.size));obtain⟨b,h⟩:=Nq W0.drew;rw[h]at H d HS I J aq n c⊢;clear h e y0 j k r G C x y N O P T U g;have aL:=h_ ((bR b.heap.size b).alloc (nR _) (.cells (Jz f.nm z) 9));replace c:(b.alloc (.cells (Jz f.nm z) 9)).cell? ⟨w.heap.size+1,0,none⟩=some (.string f.nm)/\(b.alloc (.cells (Jz f.nm z) 9)).cell? ⟨w.heap.size+1,1,none⟩=some (J6 B)/\(b.alloc (.cells (Jz f.nm z) 9)).cell? ⟨0,B,none⟩=some (.string z):=⟨(aL.cell d.lt).trans c.1,(aL.cell d.lt).trans c.2.1,(aL.cell aq.1).trans c.2.2⟩;refine kf2 (i:=6) (v:=.slice (some ⟨b.heap.size,0,none⟩) 5 5) (w':=b.alloc (.cells (Jz f.nm z) 9)) 14 rfl rfl (by rfl) (by kernel_rfl) (by simp[execOp,go_sem]) c ?_;refine kaS (by(first | simp only[Ya,Yb] | skip);rfl) (by(first | simp only[Ya,Yb] | skip);rfl) ?_;refine tkA 7 c ?_;refine wdQ ?_;clear c;have bV:(f.lb<0/\lbT m f=⟨#[97,117,116,111]⟩)∨∃M:Nat,f.lb=M/\(M:Int)<m.L.length/\∃F o,al=some ⟨F,o,none⟩/\F<b.heap.size/\b.cell? ⟨F,o+M,none⟩=some (.string (lbT m f)):=by
  by_cases g:f.lb<0
  . exact .inl ⟨g,by unfold lbT;rw[Yr g]⟩
  . have h:=D.l2
    have aS:f.lb.toNat<m.L.length:=(by omega);obtain⟨F,o,c,j,e⟩:=HS.l f.lb.toNat aS;refine .inr ⟨f.lb.toNat,by omega,by omega,F,o,c,j,?_⟩;rw[e];unfold lbT;rw[Yl g,<- qfx aS,show((f.lb.toNat:Nat):Int)=f.lb by omega]
 have a7:Hi ((b.alloc (.cells #[.string ⟨#[102,105,101,108,100]⟩,.string f.nm,.string z,.string ⟨#[97,116]⟩,.string (lbT m f)] 9)).ownsRow b.heap.size 9 1 (.slice (some ⟨b.heap.size,0,none⟩) 5 5) (w5 m f++(f.bys.take 0).flatMap (byW m.R)).length (stV (w5 m f++(f.bys.take 0).flatMap (byW m.R)))):=h_ (by
  have g:=qcb b (w5 m f) (by show 5<=_;omega);unfold w5 at g⊢;rw[bA.u]at g⊢;simpa [stV] using g)
 have bx:Hi (∀c,Bw b (b.alloc c)):=h_ fun c=>(bR _ _).alloc (nR _) c;have cj:w.heap.size+1<b.heap.size:=d.lt;have cb:f.bys.length<=64:=Y5 (qdz D.b) HV.nr;rcases bV with ⟨h,bP⟩ | ⟨M,h,aS,F,o,rfl,bI,e⟩
 case' inl =>
  have k:¬ 0<=f.lb:=by omega
  have x:∀c,(b.alloc c).cell? ⟨w.heap.size+1,2,none⟩=some (J6 f.lb):=fun c=>(d.alloc c).cell 2;have y:∀c,(b.alloc c).cell? ⟨w.heap.size+1,3,none⟩=some (.slice ab f.bys.length ad):=fun c=>(d.alloc c).cell 3;go_wp2_with fail
 case' inr =>
  have k:(0:Int)<=M:=by omega
  have x:∀c,(b.alloc c).cell? ⟨w.heap.size+1,2,none⟩=some (J6 M):=fun c=>by rw[<- h];exact(d.alloc c).cell 2
  have y:∀c,(b.alloc c).cell? ⟨w.heap.size+1,3,none⟩=some (.slice ab f.bys.length ad):=fun c=>(d.alloc c).cell 3;have y0:∀c,(b.alloc c).cell? ⟨w.heap.size,0,none⟩=some (.slice (some ⟨F,o,none⟩) m.L.length ay):=fun c=>(H.alloc c).cell 0;have r:∀c,(b.alloc c).cell? ⟨F,o+M,none⟩=some (.string (lbT m f)):=fun c=>(((bR b.heap.size b).alloc (nR _) c).cell (p:=⟨F,o+M,none⟩) bI).trans e;have c:=h_ h;clear h e;go_wp2_with fail
 all_goals
  clear x y
  try clear y0 r
  go_loopw [5,29] (fun c i wr=>∃e:Nat,e<=f.bys.length/\i=J6 e/\wr.ownsRow b.heap.size 9 1 c (w5 m f++(f.bys.take e).flatMap (byW m.R)).length (stV (w5 m f++(f.bys.take e).flatMap (byW m.R)))/\Bw b wr) (fun _ i _=>f.bys.length - (intOf i).toNat)
  case atStart=>exact⟨0,nZ _,rfl,by first | exact a7 | (have g:=a7.u;rw[bP]at g;exact g),bx _⟩
  case round =>
   obtain⟨e,hj,rfl,c,j⟩:=hrel;obtain⟨X,aW⟩:=oB c j;have t:=mB H j;obtain⟨E,h,g⟩:=oC (HS.mono j) (I.mono j) (J.mono j);have k:=mB d j;have ck:=j.size;have aJ:(w5 m f++(f.bys.take e).flatMap (byW m.R)).length<=133:=by
    rw[Yj,qng,Zb];show 5+_<=_;omega
   clear c j;by_cases c:e<f.bys.length
   . have bJ:(e:Int)<f.bys.length:=by omega
     obtain⟨b2,o2,rfl,-,r⟩:=h.b e c;have K:inR m.R.length f.bys[e]=true:=by
      have:=D.b;unfold kbG at this;rw[Yh,Yv]at this;exact this.1 _ (Yi c)
     dsimp only at r;rw[show f.bys.getD e 0=f.bys[e] by rw[Yo,Yg c];rfl]at r;have j:Hi (w5 m f++(f.bys.take (e+1)).flatMap (byW m.R)=w5 m f++(f.bys.take e).flatMap (byW m.R)++byW m.R f.bys[e]):=h_ (by rw[Ys c,V7];simp);obtain⟨s,L,V⟩:=qp9 K;rw[L]at r j;obtain⟨pb,po,rfl,-,z1,z2⟩:=E.r s V;rw[show byW m.R (s:Int)=[⟨#[98,121]⟩,m.R[s].nm] by unfold byW;rw[qgq V]]at j;have cc:(s:Int)<m.R.length:=(by omega);have ca:=q.bl;clear K L;generalize m.R[s].nm=W at *;obtain⟨v0,v1,v2,v3⟩:=kaf t;obtain⟨WJ,K⟩:=Nq (w5 m f++(f.bys.take e).flatMap (byW m.R));rw[K]at X aJ j;clear K;go_wp2_with (at_builtin;refine q07 rfl _ _ rfl b.heap.size _ WJ rfl (X.alloc _) _ [⟨#[98,121]⟩,W] rfl (qsx wr [⟨#[98,121]⟩,W] 2) (by show _+2<=_;omega) (by simp;omega) ?_);intro v' w3 L K;have Y:=h_ (qdu (aW.alloc (by omega) _) (X.alloc _) K (by simp;omega));have Z:Hi (w3.ownsRow b.heap.size 9 1 v' (w5 m f++(f.bys.take (e+1)).flatMap (byW m.R)).length (stV (w5 m f++(f.bys.take (e+1)).flatMap (byW m.R)))):=h_ (by rw[j.u,Yj];exact L);clear L K aJ;refine rQ ?_;exact⟨e+1,by omega,by go_num,Z,Y⟩
   obtain rfl:e=f.bys.length:=by omega
   have bJ:¬ (f.bys.length:Int)<(f.bys.length:Int):=by omega
   rw[Vt]at X aJ;obtain⟨WS,j⟩:=Nq (w5 m f++f.bys.flatMap (byW m.R));rw[j]at X aJ;have be:=h_ j;clear j t E c;obtain⟨G,C,x,y,N,O,P,T,U⟩:=kaU k;go_wp2_with fail;refine(q4c ⟨#[105,115]⟩ ai ax f.is wr D.i q.il h.i q.i g).mono ?_;rintro s bB ⟨cl,rfl,t,c⟩;obtain⟨L,K⟩:=oB t (qgf X c);have aX:=mT aW c;replace h:=h_ (h.mono c);replace g:=h_ (g.mono c);replace k:=mB k c;have cd:=aX.size;have bS:=kb9 ⟨#[105,115]⟩ f.is;clear t c G C x y N O P T U;obtain⟨Y,j⟩:∃E,rW ⟨#[105,115]⟩ f.is=E:=⟨_,rfl⟩;rw[j]at L bS;have a4:=h_ j;clear j;go_wp2_with (at_builtin;refine q07 rfl _ _ rfl b.heap.size _ WS rfl K _ Y rfl L (by omega) (by omega) ?_);intro b4 aP j r;have ag:Below b.heap.size bB aP:=qdu (bR _ _) K r (by omega);obtain⟨aC,ba⟩:=oB (aX.trans ag) (show aP.ownsRow b.heap.size 9 1 b4 (WS++Y).length (stV (WS++Y)) by rw[Yj];exact j);replace h:=h_ (I.mono aC);replace g:=h_ (J.mono aC);replace k:=h_ (d.mono aC d.lt);obtain⟨G,C,x,y,N,O,P,T,U⟩:=kaU k;have bK:(WS++Y).length<=WS.length+Y.length:=Oo Yj;obtain⟨aa,W⟩:∃V,WS++Y=V:=⟨_,rfl⟩;rw[W]at ba bK;have bf:=h_ W;clear j r ag W L K;go_wp2_with fail;refine(q4c ⟨#[119,104,101,110]⟩ ah aw f.wh aP D.h q.hl h.h q.h g).mono ?_;rintro s bC ⟨cm,rfl,t,c⟩;obtain⟨bi,a8⟩:=oB t (qgf ba c);have aY:=mT aC c;replace h:=h_ (h.mono c);replace g:=h_ (g.mono c);replace k:=mB k c;have ce:=aY.size;have bT:=kb9 ⟨#[119,104,101,110]⟩ f.wh;clear t c G C x y N O P T U;obtain⟨Z,bn⟩:∃E,rW ⟨#[119,104,101,110]⟩ f.wh=E:=⟨_,rfl⟩;rw[bn]at bi bT;have a5:=h_ bn;go_wp2_with (at_builtin;refine q07 rfl _ _ rfl b.heap.size _ aa rfl a8 _ Z rfl bi (by omega) (by omega) ?_);intro b5 aQ j r;have ag:Below b.heap.size bC aQ:=qdu (bR _ _) a8 r (by omega);obtain⟨aD,bb⟩:=oB (aY.trans ag) (show aQ.ownsRow b.heap.size 9 1 b5 (aa++Z).length (stV (aa++Z)) by rw[Yj];exact j);replace h:=h_ (I.mono aD);replace g:=h_ (J.mono aD);replace k:=h_ (d.mono aD d.lt);obtain⟨G,C,x,y,N,O,P,T,U⟩:=kaU k;have bL:(aa++Z).length<=aa.length+Z.length:=Oo Yj;obtain⟨ac,bq⟩:∃V,aa++Z=V:=⟨_,rfl⟩;rw[bq]at bb bL;have bg:=h_ bq;go_wp2_with fail;refine(q4c ⟨#[118,97,108,105,100]⟩ av az f.va aQ D.v q.vl h.v q.v g).mono ?_;rintro s bD ⟨cn,rfl,t,c⟩;obtain⟨bj,a9⟩:=oB t (qgf bb c);have aZ:=mT aD c;replace h:=h_ (h.mono c);replace g:=h_ (g.mono c);replace k:=mB k c;have cf:=aZ.size;have bU:=kb9 ⟨#[118,97,108,105,100]⟩ f.va;obtain⟨L3,bo⟩:∃E,rW ⟨#[118,97,108,105,100]⟩ f.va=E:=⟨_,rfl⟩;rw[bo]at bj bU;have a6:=h_ bo;go_wp2_with (at_builtin;refine q07 rfl _ _ rfl b.heap.size _ ac rfl a9 _ L3 rfl bj (by omega) (by omega) ?_);intro b6 aF j r;have ag:Below b.heap.size bD aF:=qdu (bR _ _) a9 r (by omega);obtain⟨W,aN⟩:=oB (aZ.trans ag) (show aF.ownsRow b.heap.size 9 1 b6 (ac++L3).length (stV (ac++L3)) by rw[Yj];exact j);replace h:=h_ (I.mono W);replace g:=h_ (J.mono W);replace k:=h_ (d.mono W d.lt);obtain⟨G,C,x,y,N,O,P,T,U⟩:=kaU k;have bM:(ac++L3).length<=ac.length+L3.length:=Oo Yj;obtain⟨L,br⟩:∃V,ac++L3=V:=⟨_,rfl⟩;rw[br]at aN bM;have bh:=h_ br;have bW:=q.sy;have ci:=q.vl;by_cases bv:f.va.length=0
   . have b0:¬ (0:Int)<f.va.length:=by omega
     have aU:¬ 0<f.va.length:=(by omega);have b1:decide (0<f.va.length)=false:=Yd aU;have aO:Hi (syW f=[]):=h_ (by unfold syW;rw[Yr bv]);go_wp2_with fail;refine(q4c ⟨#[109,117,115,116]⟩ au ae f.mu aF D.u.u q.ul h.u.u q.u.u g).mono ?_;rintro s bE ⟨b3,rfl,t,c⟩;have ao:=h_ t;have am:=h_ (qgf aN c);have aj:=mT W c;have bX:=aj.size;have aT:=kb9 ⟨#[109,117,115,116]⟩ f.mu;obtain⟨L4,aA⟩:∃E,rW ⟨#[109,117,115,116]⟩ f.mu=E:=⟨_,rfl⟩;rw[aA]at ao aT;have aM:=h_ aA;go_wp2_with (at_builtin;refine q07 rfl _ _ rfl b.heap.size _ L rfl am _ L4 rfl ao (by omega) (by omega) ?_);intro aV aR j r;have ak:=h_ (n.trans ((aj.trans (qdu (bR _ _) am r (by omega))).mono n.size));have HE:Hi (L++L4=fW m f):=h_ (by
      rw[<- bh.u,<- bg.u,<- bf.u,<- be.u,<- aM.u,<- a6.u,<- a5.u,<- a4.u];unfold fW;rw[aO.u];simp)
     replace j:=(show aR.ownsRow b.heap.size 9 1 aV (fW m f).length (stV (fW m f)) by rw[<- HE.u,Yj];exact j);obtain⟨a1,c1,rfl,aB,hS⟩:=q6o j;have an:=h_ hS;go_wp2_with fail;go_ret
     first | exact⟨_,⟨_,rfl⟩,aB,an,ak⟩ | exact⟨_,_,rfl,aB,an,ak⟩
   . have b0:(0:Int)<f.va.length:=by omega
     have aU:0<f.va.length:=(by omega);have b1:decide (0<f.va.length)=true:=Ye aU;obtain⟨K,bp⟩:=Nq ((⟨#[34]⟩++f.sy++⟨#[34]⟩:Tb));have aO:Hi (syW f=[⟨#[115,97,121,115]⟩,K]):=h_ (by unfold syW;rw[Yl bv,bp]);have bz:Hi (kbm 3 0 f.sy=K):=h_ (by
      rw[<- bp];unfold kbm;rw[Yr (by unfold kah;simp[D.u.sy])];simp)
     go_wp2_with fail;refine cQ (q4h f.sy aF) fun bF bu=>?_;have bw:=h_ bu;replace g:=h_ (g.mono bu);go_wp2_with fail;refine cQ (q5b 3 0 f.sy bF bW (by omega) (by omega) g.pw) fun bG bH=>?_;rw[bz.u];have a3:=mT bw bH;have bd:=h_ (qgf aN a3);have a2:=h_ (W.trans (a3.mono W.size));have cg:=a2.size;go_wp2_with (at_builtin;refine q07 rfl _ _ rfl b.heap.size _ L rfl (bd.alloc _) _ [⟨#[115,97,121,115]⟩,K] rfl (qsx bG [⟨#[115,97,121,115]⟩,K] 2) (by show _+2<=_;omega) (by simp;omega) ?_);intro b7 bm j r;have aE:=h_ (qdu (a2.alloc (by omega) _) (bd.alloc _) r (by simp;omega));have bO:(L++[⟨#[115,97,121,115]⟩,K]).length<=L.length+2:=Oo Yj;have bc:=h_ (show bm.ownsRow b.heap.size 9 1 b7 (L++[⟨#[115,97,121,115]⟩,K]).length (stV (L++[⟨#[115,97,121,115]⟩,K])) by rw[Yj];exact j);replace h:=h_ (I.mono aE);replace g:=h_ (J.mono aE);replace k:=h_ (d.mono aE d.lt);obtain⟨G,C,x,y,N,O,P,T,U⟩:=kaU k;obtain⟨bk,bt⟩:∃V,L++[⟨#[115,97,121,115]⟩,K]=V:=⟨_,rfl⟩;rw[bt]at bc bO;have V:=h_ bt;go_wp2_with fail;refine(q4c ⟨#[109,117,115,116]⟩ au ae f.mu bm D.u.u q.ul h.u.u q.u.u g).mono ?_;rintro s bE ⟨b3,rfl,t,c⟩;have ao:=h_ t;have am:=h_ (qgf bc c);have aj:=mT aE c;have bX:=aj.size;have aT:=kb9 ⟨#[109,117,115,116]⟩ f.mu;obtain⟨L4,aA⟩:∃E,rW ⟨#[109,117,115,116]⟩ f.mu=E:=⟨_,rfl⟩;rw[aA]at ao aT;have aM:=h_ aA;go_wp2_with (at_builtin;refine q07 rfl _ _ rfl b.heap.size _ bk rfl am _ L4 rfl ao (by omega) (by omega) ?_);intro aV aR j r;have ak:=h_ (n.trans ((aj.trans (qdu (bR _ _) am r (by omega))).mono n.size));have HE:Hi (bk++L4=fW m f):=h_ (by
      rw[<- V.u,<- bh.u,<- bg.u,<- bf.u,<- be.u,<- aM.u,<- a6.u,<- a5.u,<- a4.u];unfold fW;rw[aO.u];simp)
     replace j:=(show aR.ownsRow b.heap.size 9 1 aV (fW m f).length (stV (fW m f)) by rw[<- HE.u,Yj];exact j);obtain⟨a1,c1,rfl,aB,hS⟩:=q6o j;have an:=h_ hS;go_wp2_with fail;go_ret
     first | exact⟨_,⟨_,rfl⟩,aB,an,ak⟩ | exact⟨_,_,rfl,aB,an,ak⟩
theorem qm6 (w:Tw)(l:List Tb):kbY (w.alloc (.cells (stV l).toArray 9)) (some ⟨w.heap.size,0,none⟩) l:=fun b a=>by
 refine⟨w.heap.size,0,rfl,by simp,?_⟩;have:=(Blk.new w 9 (stV l).toArray).cell b;rw[Y3,this];simp[stV,List.getElem?_eq_getElem a]
theorem kgQ (w:Tw):Bl (w.alloc (.cells #[.pointer none,J7] 285)) w.heap.size w.heap.size [] :=
 .inl ⟨nR _,J7,(MapKept.heap_alloc w _).1,World.ownsRowF_of (World.ownsRow_nil _ _ _ _),fun a=>by cases a⟩
theorem q0d (B b:Nat)(l:List UInt8)(w:Tw)(a:Bl w B b l):Calls prog 243 #[J9 b 0] w fun c d=>c=.returned (.string ⟨l.toArray⟩)/\Below B w d :=
 (Any.Builder_String_any_f Tryz.lays169 Tryz.Builder_Extra_169 B b l w a a.le).mono fun _ _ ⟨c,_,d⟩=>⟨c,d⟩
theorem q0e (m:Fm)(A:MA)(w:Tw)(hf:kbe m)(hv:VfA m)(ha:MSl w m A)(ht:kbT w)(hy:TyW w) :
 Gv 196 #[mV m A] w (.string ⟨(cT m).toArray⟩):=by
 obtain⟨al,B,ap,M,ar,N,O,K,aJ⟩:=A;unfold mV;dsimp only;obtain⟨HK,HB,j⟩:=oC ((Blk.new w 37 (Jb al m B ap M ar N O K)).alloc (.cells #[.pointer none,J7] 285)) (((bR w.heap.size w).alloc (nR _) (.cells (Jb al m B ap M ar N O K) 37)).alloc (by simp) (.cells #[.pointer none,J7] 285)) (kgQ (w.alloc (.cells (Jb al m B ap M ar N O K) 37)));rw[Yp]at j;obtain⟨W0,aK⟩:=Nq ((w.alloc (.cells (Jb al m B ap M ar N O K) 37)).alloc (.cells #[.pointer none,J7] 285));have a6:w.heap.size+2<=W0.heap.size:=by rw[<- aK];simp
 rw[aK]at HK HB j;obtain⟨HS,HF,T,HT,HY⟩:=oG ha hf hv ht hy;have nl:=hv.nl;have np:=hv.np;have nr:=hv.nr;have a7:=hv.nf;obtain⟨y0,y1,y2,y3⟩:=kaf HK;go_enter func196,ntmps196;go_wp2_with fail;go_loopw [15] (fun z wr=>∃a:Nat,a<=m.L.length/\z=J6 a/\Bl wr (w.heap.size+1) (w.heap.size+1) (c1 m a)/\Below (w.heap.size+1) W0 wr) (fun z _=>m.L.length - (intOf z).toNat)
 case atStart=>exact⟨0,nZ _,rfl,by rw[qni];exact j,bR _ _⟩
 case round =>
  obtain⟨a,hk,rfl,aj,s⟩:=hrel;obtain⟨j,D,E,I⟩:=oD aj s (HK.mono s (by omega)) (HB.trans (s.mono (by omega)));have ae:=h_ (HS.mono I);have aF:=s.size;obtain⟨y0,y1,y2,y3⟩:=kaf E;by_cases y:a<m.L.length
  . have am:(a:Int)<m.L.length:=by omega
    obtain⟨c,n,rfl,-,z0⟩:=ae.l a y;have x:Hi (c1 m (a+1)=c1 m a++(jw [⟨#[108,97,98,101,108]⟩,m.L[a]]++[59,10])):=h_ (by rw[kgM];exact qnh m a y);have J:Hi ((c1 m a).length+(jw [⟨#[108,97,98,101,108]⟩,m.L[a]]).length<=100000000):=h_ (by
     have e:=ker T (a+1);rw[x.u,Yj,Yj]at e;omega)
    generalize m.L[a]=d at *;have u:=h_ ((bR wr.heap.size wr).alloc (nR _) (.cells #[.string ⟨#[108,97,98,101,108]⟩,.string d] 9));have HC:=h_ (q0b (w.heap.size+1) (w.heap.size+1) (c1 m a) (some ⟨wr.heap.size,0,none⟩) 2 [⟨#[108,97,98,101,108]⟩,d] _ (j.mono u) (by simp) (by simp) (by simp) (qm6 wr [⟨#[108,97,98,101,108]⟩,d]) J);go_wp2_with fail;refine HC.mono ?_;rintro an G ⟨rfl,ak,H,-⟩;have ad:Hi (Bl G (w.heap.size+1) (w.heap.size+1) (c1 m (a+1))):=h_ (by rw[x.u];exact ak);have Q:=h_ (D.trans ((u.mono (by omega)).trans H));refine rQ ?_;exact⟨a+1,by omega,by go_num,ad,Q⟩
  obtain rfl:a=m.L.length:=by omega
  have am:¬ (m.L.length:Int)<(m.L.length:Int):=by omega
  have aa:Hi (Bl wr (w.heap.size+1) (w.heap.size+1) (c2 m 0)):=h_ (by rw[qnk];exact j);go_wp2_with fail;obtain⟨Wa,aT⟩:∃ay,wr=ay:=⟨_,rfl⟩;rw[aT]at aa D⊢;go_loopw [26] (fun z wr=>∃a:Nat,a<=m.P.length/\z=J6 a/\Bl wr (w.heap.size+1) (w.heap.size+1) (c2 m a)/\Below (w.heap.size+1) W0 wr) (fun z _=>m.P.length - (intOf z).toNat)
  case atStart=>exact⟨0,nZ _,rfl,aa,D⟩
  case round =>
   obtain⟨a,hk,rfl,aj,s⟩:=hrel;obtain⟨j,D,E,I⟩:=oD aj s (HK.mono s (by omega)) (HB.trans (s.mono (by omega)));have ae:=h_ (HS.mono I);have aF:=s.size;obtain⟨y0,y1,y2,y3⟩:=kaf E;by_cases y:a<m.P.length
   . have am:(a:Int)<m.P.length:=by omega
     obtain⟨pb,Z,rfl,-,z0,z1⟩:=ae.p a y;have x:Hi (c2 m (a+1)=c2 m a++(jw [⟨#[98,101,108,111,119]⟩,kbA m.L m.P[a].1,kbA m.L m.P[a].2]++[59,10])):=h_ (by rw[kgN];exact qnj m a y);have J:Hi ((c2 m a).length+(jw [⟨#[98,101,108,111,119]⟩,kbA m.L m.P[a].1,kbA m.L m.P[a].2]).length<=100000000):=h_ (by
      have e:=kes T (a+1);rw[x.u,Yj,Yj]at e;omega)
     obtain⟨aN,aA⟩:=T.p _ (Yi y);generalize m.P[a]=aG at *;obtain⟨u1,u2⟩:=aG;dsimp only at aN aA z0 z1 x J;obtain⟨C,rfl,aO⟩:=qp9 aN;obtain⟨k,rfl,az⟩:=qp9 aA;rw[qfx aO,qfx az]at x J;obtain⟨c,n,rfl,aC,a1⟩:=HS.l C aO;obtain⟨b',o',he,-,aH⟩:=HS.l k az;cases he;have a5:(C:Int)<m.L.length:=(by omega);have aY:(k:Int)<m.L.length:=(by omega);generalize m.L[C]=d at *;generalize m.L[k]=h at *;obtain⟨U,aL,ax,t⟩:=nw wr 113 (Jr C k);have aw:=h_ (E.mono t E.lt);have ao:=h_ (j.mono t);have q:=h_ (D.trans (t.mono (by omega)));have aM:=t.size;have ac:=h_ (I.trans (t.mono (by omega)));have a2:=(ac.cell (p:=⟨c,n+C,none⟩) aC).trans a1;have aI:=(ac.cell (p:=⟨c,n+k,none⟩) aC).trans aH;go_wp2_with fail;refine wp_region_held_drew (S:=fun w'=>Blk w' w.heap.size 37 (Jh (some ⟨c,n,none⟩) m B (some ⟨pb,Z,none⟩) M ar N O K)/\Blk w' wr.heap.size 113 [J6 C,J6 k]/\w'.cell? ⟨c,n+C,none⟩=some (.string d)/\w'.cell? ⟨c,n+k,none⟩=some (.string h)) (by kernel_rfl) ⟨aw,ax,a2,aI⟩ (fun b=>?_);refine tkA 0 b ?_;refine tkL 1 31 (.slice (some ⟨c,n,none⟩) m.L.length B) b ?_ (hy:=fun w r=>by obtain⟨e,o,q2,q3⟩:=r;obtain⟨V,W,X,Y⟩:=kaf e;obtain⟨r0,r1⟩:=duo o;simp[execOp,go_sem, *]);refine tkA 2 b ?_;refine tkL 3 33 (J6 C) b ?_ (hy:=fun w r=>by obtain⟨e,o,q2,q3⟩:=r;obtain⟨V,W,X,Y⟩:=kaf e;obtain⟨r0,r1⟩:=duo o;simp[execOp,go_sem, *]);refine tkA 4 b ?_;refine tkL 5 35 (.string d) b ?_ (hy:=fun w r=>by obtain⟨e,o,q2,q3⟩:=r;obtain⟨V,W,X,Y⟩:=kaf e;obtain⟨r0,r1⟩:=duo o;simp[execOp,go_sem, *]);refine tkA 6 b ?_;refine tkL 7 37 (.slice (some ⟨c,n,none⟩) m.L.length B) b ?_ (hy:=fun w r=>by obtain⟨e,o,q2,q3⟩:=r;obtain⟨V,W,X,Y⟩:=kaf e;obtain⟨r0,r1⟩:=duo o;simp[execOp,go_sem, *]);refine tkA 8 b ?_;refine tkL 9 39 (J6 k) b ?_ (hy:=fun w r=>by obtain⟨e,o,q2,q3⟩:=r;obtain⟨V,W,X,Y⟩:=kaf e;obtain⟨r0,r1⟩:=duo o;simp[execOp,go_sem, *]);refine tkA 10 b ?_;refine tkL 11 41 (.string h) b ?_ (hy:=fun w r=>by obtain⟨e,o,q2,q3⟩:=r;obtain⟨V,W,X,Y⟩:=kaf e;obtain⟨r0,r1⟩:=duo o;simp[execOp,go_sem, *]);have aq:Hi (Bw U U.drew):=h_ (bR _ _).drew;replace j:=h_ (ao.mono aq);replace q:=h_ (q.trans (aq.mono (by omega)));obtain⟨g,hV⟩:=Nq U.drew;have aE:=q.size;rw[hV]at j q b aE⊢;have u:=h_ ((bR g.heap.size g).alloc (nR _) (.cells (J3 d h) 9));have ag:=h_ (qm6 g [⟨#[98,101,108,111,119]⟩,d,h]);replace j:=h_ (j.mono u);replace b:Blk (g.alloc (.cells (J3 d h) 9)) w.heap.size 37 (Jh (some ⟨c,n,none⟩) m B (some ⟨pb,Z,none⟩) M ar N O K)/\Blk (g.alloc (.cells (J3 d h) 9)) wr.heap.size 113 [J6 C,J6 k]/\(g.alloc (.cells (J3 d h) 9)).cell? ⟨c,n+C,none⟩=some (.string d)/\(g.alloc (.cells (J3 d h) 9)).cell? ⟨c,n+k,none⟩=some (.string h):=⟨b.1.mono u b.1.lt,b.2.1.mono u b.2.1.lt,(u.cell (p:=⟨c,n+C,none⟩) (show c<g.heap.size by omega)).trans b.2.2.1,(u.cell (p:=⟨c,n+k,none⟩) (show c<g.heap.size by omega)).trans b.2.2.2⟩;refine kf2 (i:=12) (v:=.slice (some ⟨g.heap.size,0,none⟩) 3 3) (w':=g.alloc (.cells (J3 d h) 9)) 42 rfl rfl (by rfl) (by kernel_rfl) (by simp[execOp,go_sem]) b ?_;refine kaS (by(first | simp only[Ya,Yb] | skip);rfl) (by(first | simp only[Ya,Yb] | skip);rfl) ?_;obtain⟨V2,aD⟩:=Nq (g.alloc (.cells (J3 d h) 9));replace q:=h_ (q.trans (u.mono (by omega)))
     change Hi (Bl (g.alloc (.cells (J3 d h) 9)) _ _ _) at j
     change Hi (kbY (g.alloc (.cells (J3 d h) 9)) _ _) at ag
     rw[aD]at j ag b q⊢;have a0:=q.size;refine kaL (i:=13) (f:=241) (args:=#[J9 (w.heap.size+1) 0,.slice (some ⟨g.heap.size,0,none⟩) 3 3]) (R:=fun an wz=>an=.tuple #[]/\Bl wz (w.heap.size+1) (w.heap.size+1) (c2 m (a+1))/\Below (w.heap.size+1) V2 wz/\Oth (w.heap.size+1) V2 wz) 43 rfl rfl (by rfl) (by kernel_rfl) (by simp[execOp,go_sem]) ((q0b (w.heap.size+1) (w.heap.size+1) (c2 m a) (some ⟨g.heap.size,0,none⟩) 3 [⟨#[98,101,108,111,119]⟩,d,h] V2 j (by simp) (by simp) (by simp) ag (by have:=J.u;omega)).mono fun aS w6 ⟨he,e,o,h3⟩=>⟨_,he,rfl,by rw[<- x.u]at e;exact e,o,h3⟩) ?_;rintro r3 G ⟨rfl,ak,H,aB⟩;have ad:=h_ ak;have Q:=h_ (q.trans H);replace b:Blk G w.heap.size 37 (Jh (some ⟨c,n,none⟩) m B (some ⟨pb,Z,none⟩) M ar N O K)/\Blk G wr.heap.size 113 [J6 C,J6 k]/\G.cell? ⟨c,n+C,none⟩=some (.string d)/\G.cell? ⟨c,n+k,none⟩=some (.string h):=⟨b.1.oth aB (by omega) (by decide),b.2.1.oth aB (by omega) (by decide),(H.cell (p:=⟨c,n+C,none⟩) (show c<w.heap.size+1 by omega)).trans b.2.2.1,(H.cell (p:=⟨c,n+k,none⟩) (show c<w.heap.size+1 by omega)).trans b.2.2.2⟩;refine⟨b,?_⟩;refine kaS (by(first | simp only[Ya,Yb] | skip);rfl) (by(first | simp only[Ya,Yb] | skip);rfl) ?_;refine wdQ ?_;refine rQ ?_;exact⟨a+1,by omega,by go_num,ad,Q⟩
   obtain rfl:a=m.P.length:=by omega
   have am:¬ (m.P.length:Int)<(m.P.length:Int):=by omega
   have aa:Hi (Bl wr (w.heap.size+1) (w.heap.size+1) (c3 m 0)):=h_ (by rw[qnm];exact j);go_wp2_with fail;obtain⟨Wb,aU⟩:∃ay,wr=ay:=⟨_,rfl⟩;rw[aU]at aa D⊢;go_loopw [48] (fun z wr=>∃a:Nat,a<=m.R.length/\z=J6 a/\Bl wr (w.heap.size+1) (w.heap.size+1) (c3 m a)/\Below (w.heap.size+1) W0 wr) (fun z _=>m.R.length - (intOf z).toNat)
   case atStart=>exact⟨0,nZ _,rfl,aa,D⟩
   case round =>
    obtain⟨a,hk,rfl,aj,s⟩:=hrel;obtain⟨j,D,E,I⟩:=oD aj s (HK.mono s (by omega)) (HB.trans (s.mono (by omega)));have ae:=h_ (HS.mono I);have aF:=s.size;obtain⟨y0,y1,y2,y3⟩:=kaf E;by_cases y:a<m.R.length
    . have am:(a:Int)<m.R.length:=by omega
      obtain⟨pb,Z,rfl,-,z0,z1⟩:=ae.r a y;have x:Hi (c3 m (a+1)=c3 m a++(jw [⟨#[114,111,108,101]⟩,m.R[a].nm,⟨#[97,116]⟩,kbA m.L m.R[a].lb]++[59,10])):=h_ (by rw[kgO];exact qnl m a y);have J:Hi ((c3 m a).length+(jw [⟨#[114,111,108,101]⟩,m.R[a].nm,⟨#[97,116]⟩,kbA m.L m.R[a].lb]).length<=100000000):=h_ (by
       have e:=ket T (a+1);rw[x.u,Yj,Yj]at e;omega)
      have aA:=T.ro _ (Yi y);generalize m.R[a]=aG at *;obtain⟨d,u2⟩:=aG;dsimp only at aA z0 z1 x J;obtain⟨k,rfl,az⟩:=qp9 aA;rw[qfx az]at x J;obtain⟨c,n,rfl,aC,aH⟩:=HS.l k az;have aY:(k:Int)<m.L.length:=(by omega);generalize m.L[k]=h at *;obtain⟨U,aL,ax,t⟩:=nw wr 116 #[.string d,J6 k];have aw:=h_ (E.mono t E.lt);have ao:=h_ (j.mono t);have q:=h_ (D.trans (t.mono (by omega)));have aM:=t.size;have ac:=h_ (I.trans (t.mono (by omega)));have aI:=(ac.cell (p:=⟨c,n+k,none⟩) aC).trans aH;go_wp2_with fail;refine wp_region_held_drew (S:=fun w'=>Blk w' w.heap.size 37 (Jh (some ⟨c,n,none⟩) m B ap M (some ⟨pb,Z,none⟩) N O K)/\Blk w' wr.heap.size 116 [.string d,J6 k]/\w'.cell? ⟨c,n+k,none⟩=some (.string h)) (by kernel_rfl) ⟨aw,ax,aI⟩ (fun b=>?_);refine tkA 0 b ?_;refine tkL 1 53 (.string d) b ?_ (hy:=fun w r=>by obtain⟨e,o,q2⟩:=r;obtain⟨V,W,X,Y⟩:=kaf e;obtain⟨r0,r1⟩:=duo o;simp[execOp,go_sem, *]);refine tkA 2 b ?_;refine tkL 3 55 (.slice (some ⟨c,n,none⟩) m.L.length B) b ?_ (hy:=fun w r=>by obtain⟨e,o,q2⟩:=r;obtain⟨V,W,X,Y⟩:=kaf e;obtain⟨r0,r1⟩:=duo o;simp[execOp,go_sem, *]);refine tkA 4 b ?_;refine tkL 5 57 (J6 k) b ?_ (hy:=fun w r=>by obtain⟨e,o,q2⟩:=r;obtain⟨V,W,X,Y⟩:=kaf e;obtain⟨r0,r1⟩:=duo o;simp[execOp,go_sem, *]);refine tkA 6 b ?_;refine tkL 7 59 (.string h) b ?_ (hy:=fun w r=>by obtain⟨e,o,q2⟩:=r;obtain⟨V,W,X,Y⟩:=kaf e;obtain⟨r0,r1⟩:=duo o;simp[execOp,go_sem, *]);have aq:Hi (Bw U U.drew):=h_ (bR _ _).drew;replace j:=h_ (ao.mono aq);replace q:=h_ (q.trans (aq.mono (by omega)));obtain⟨g,hV⟩:=Nq U.drew;have aE:=q.size;rw[hV]at j q b aE⊢;have u:=h_ ((bR g.heap.size g).alloc (nR _) (.cells (Jw d h) 9));have ag:=h_ (qm6 g [⟨#[114,111,108,101]⟩,d,⟨#[97,116]⟩,h]);replace j:=h_ (j.mono u);replace b:Blk (g.alloc (.cells (Jw d h) 9)) w.heap.size 37 (Jh (some ⟨c,n,none⟩) m B ap M (some ⟨pb,Z,none⟩) N O K)/\Blk (g.alloc (.cells (Jw d h) 9)) wr.heap.size 116 [.string d,J6 k]/\(g.alloc (.cells (Jw d h) 9)).cell? ⟨c,n+k,none⟩=some (.string h):=⟨b.1.mono u b.1.lt,b.2.1.mono u b.2.1.lt,(u.cell (p:=⟨c,n+k,none⟩) (show c<g.heap.size by omega)).trans b.2.2⟩;refine kf2 (i:=8) (v:=.slice (some ⟨g.heap.size,0,none⟩) 4 4) (w':=g.alloc (.cells (Jw d h) 9)) 60 rfl rfl (by rfl) (by kernel_rfl) (by simp[execOp,go_sem]) b ?_;refine kaS (by(first | simp only[Ya,Yb] | skip);rfl) (by(first | simp only[Ya,Yb] | skip);rfl) ?_;obtain⟨V2,aD⟩:=Nq (g.alloc (.cells (Jw d h) 9));replace q:=h_ (q.trans (u.mono (by omega)))
      change Hi (Bl (g.alloc (.cells (Jw d h) 9)) _ _ _) at j
      change Hi (kbY (g.alloc (.cells (Jw d h) 9)) _ _) at ag
      rw[aD]at j ag b q⊢;have a0:=q.size;refine kaL (i:=9) (f:=241) (args:=#[J9 (w.heap.size+1) 0,.slice (some ⟨g.heap.size,0,none⟩) 4 4]) (R:=fun an wz=>an=.tuple #[]/\Bl wz (w.heap.size+1) (w.heap.size+1) (c3 m (a+1))/\Below (w.heap.size+1) V2 wz/\Oth (w.heap.size+1) V2 wz) 61 rfl rfl (by rfl) (by kernel_rfl) (by simp[execOp,go_sem]) ((q0b (w.heap.size+1) (w.heap.size+1) (c3 m a) (some ⟨g.heap.size,0,none⟩) 4 [⟨#[114,111,108,101]⟩,d,⟨#[97,116]⟩,h] V2 j (by simp) (by simp) (by simp) ag (by have:=J.u;omega)).mono fun aS w6 ⟨he,e,o,h3⟩=>⟨_,he,rfl,by rw[<- x.u]at e;exact e,o,h3⟩) ?_;rintro r3 G ⟨rfl,ak,H,aB⟩;have ad:=h_ ak;have Q:=h_ (q.trans H);replace b:Blk G w.heap.size 37 (Jh (some ⟨c,n,none⟩) m B ap M (some ⟨pb,Z,none⟩) N O K)/\Blk G wr.heap.size 116 [.string d,J6 k]/\G.cell? ⟨c,n+k,none⟩=some (.string h):=⟨b.1.oth aB (by omega) (by decide),b.2.1.oth aB (by omega) (by decide),(H.cell (p:=⟨c,n+k,none⟩) (show c<w.heap.size+1 by omega)).trans b.2.2⟩;refine⟨b,?_⟩;refine kaS (by(first | simp only[Ya,Yb] | skip);rfl) (by(first | simp only[Ya,Yb] | skip);rfl) ?_;refine wdQ ?_;refine rQ ?_;exact⟨a+1,by omega,by go_num,ad,Q⟩
    obtain rfl:a=m.R.length:=(by omega);have am:¬ (m.R.length:Int)<(m.R.length:Int):=(by omega);have aa:Hi (Bl wr (w.heap.size+1) (w.heap.size+1) (c4 m 0)):=h_ (by rw[qno];exact j);go_wp2_with fail;obtain⟨Wc,aV⟩:∃ay,wr=ay:=⟨_,rfl⟩;rw[aV]at aa D⊢;go_loopw [66] (fun z wr=>∃a:Nat,a<=m.F.length/\z=J6 a/\Bl wr (w.heap.size+1) (w.heap.size+1) (c4 m a)/\Below (w.heap.size+1) W0 wr) (fun z _=>m.F.length - (intOf z).toNat)
    case atStart=>exact⟨0,nZ _,rfl,aa,D⟩
    case round =>
     obtain⟨a,hk,rfl,aj,s⟩:=hrel;obtain⟨j,D,E,I⟩:=oD aj s (HK.mono s (by omega)) (HB.trans (s.mono (by omega)));have ae:=h_ (HS.mono I);have aF:=s.size;obtain⟨y0,y1,y2,y3⟩:=kaf E;by_cases y:a<m.F.length
     . have am:(a:Int)<m.F.length:=by omega
       obtain⟨pb,Z,rfl,⟨-,z0,z1,z2,W,X,Y,z6,z7,z8⟩,V⟩:=ae.f a y;dsimp only at W X Y z6 z8 V;have x:Hi (c4 m (a+1)=c4 m a++(jw (fW m m.F[a])++[59,10])):=h_ (by rw[khL];exact qnn m a y);have J:Hi ((c4 m a).length+(jw (fW m m.F[a])).length<=100000000):=h_ (by
        have e:=kdd T (a+1);rw[x.u,Yj,Yj]at e;omega)
       obtain⟨aQ,d⟩:=oB (HF.f _ (Yi y)) ((q7o _ _ _).1 (T.fi _ (Yi y)));generalize m.F[a]=b at *;generalize aJ a=fa at *;obtain⟨ab,e,k,n,g,h,u,z,o,r⟩:=fa;dsimp only at W X Y z6 z8;obtain⟨U,aL,ax,t⟩:=nw wr 92 (Ja b ab e k n g h u z o r);obtain⟨aw,ao,q⟩:=oC (E.mono t E.lt) (j.mono t) (D.trans (t.mono (by omega)));have aM:=t.size;have ac:=h_ (I.trans (t.mono (by omega)));have c:=h_ (q2c m ⟨al,B,ap,M,ar,N,some ⟨pb,Z,none⟩,K,aJ⟩ b ⟨ab,e,k,n,g,h,u,z,o,r⟩ U T d aQ (HS.mono ac) (V.mono t) (HT.mono ac) (HY.mono ac));unfold mV fV at c;dsimp only at c;have a3:=kgP T d;have aX:1<=(fW m b).length:=(by unfold fW w5;simp);obtain⟨x0,x1,x2,x3,x4,x5,x6,x7,x8⟩:=kaU ax;obtain⟨v0,v1,v2,v3⟩:=kaf aw;generalize fW m b=ws at *;go_wp2_with fail;refine c.mono ?_;rintro an W4 ⟨a4,aR,rfl,aW,aZ,C⟩;obtain⟨HC,aP⟩:=oB (q0b (w.heap.size+1) (w.heap.size+1) (c4 m a) a4 aR ws W4 (ao.mono C) aX (by omega) aW aZ J) (q.trans (C.mono (by omega)));go_wp2_with fail;refine HC.mono ?_;rintro an G ⟨rfl,ak,H,-⟩;have ad:Hi (Bl G (w.heap.size+1) (w.heap.size+1) (c4 m (a+1))):=h_ (by rw[x.u];exact ak);have Q:=h_ (aP.trans H);refine rQ ?_;exact⟨a+1,by omega,by go_num,ad,Q⟩
     obtain rfl:a=m.F.length:=(by omega);have am:¬ (m.F.length:Int)<(m.F.length:Int):=(by omega);have HC:=h_ (q0d (w.heap.size+1) (w.heap.size+1) (c4 m m.F.length) wr j);rw[kdB]at HC;go_wp2_with fail;refine cQ HC fun G H=>?_;have Q:=h_ (I.trans (H.mono (by omega)));go_wp2_with fail;go_ret;exact⟨rfl,Q⟩
