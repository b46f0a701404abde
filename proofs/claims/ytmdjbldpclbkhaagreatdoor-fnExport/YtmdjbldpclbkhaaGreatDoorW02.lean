import Derived.Test.YtmdjbldpclbkhaaGreatDoorW00
import Derived.Deep.RegionHeld3
set_option linter.all false
set_option maxRecDepth 100000
set_option maxHeartbeats 0
namespace Go.Proofs.YtmdjbldpclbkhaaGreatDoor
open Value renaming slice->Sl,string->St,bool->Bo
open Obj renaming cells->Cl
open Ending renaming returned->Rt
open Go Go.RowKit Go.Proofs.Tryz
def q2j {B:Nat}{w w':Tw}(a:Below B w.drew w'):Below B w w':=⟨a.os,a.tape,a.output,a.size,a.block⟩
section
variable {md:Region.Mode} {ops:Array Oper} {Q:Exit->Act->Tw->Prop} {S:Tw->Prop} {o:Oper} {a:Act}
def qr1 {a:Act}{o:Oper}{b:Tmp}{v:Value}(c:o.dst=some b):a.put o.dst v = { tmps:=a.tmps.setIfInBounds b v,defers:=a.defers }:=by rw[c];rfl
def kg2 {i fuel:Nat}{v:Value}{listed:Array Bool}{w:Tw}(d:Tmp)(hi:ops[i]? = some o)(e:o.dst=some d)(k:Region.noSelect ops=true)(h:Region.free md ops listed i=true)(j:(Region.ready md ops listed).contains i=true)
 (f:∀b (c:Act) (g:Ta) w,Q (.panic b) { tmps:=g,defers:=c.defers } w->Q (.panic b) c w) (l:Region.wanted o (yielded ops a.tmps)=true) (hy:∀w,S w->(execOp a.eval o).run prog w=.ok (.value v) w) (g:S w) (c:wpAnyH prog md ops Q S fuel (listed.setIfInBounds i true) { tmps:=a.tmps.setIfInBounds d v,defers:=a.defers } w):wpAnyH prog md ops Q S (fuel+1) listed a w :=
 wpAnyH_take hi k h j (λb a w c=>f b a _ w (by rw[qr1 e]at c;exact c)) (.inl ⟨l,hy⟩) g (by rw[qr1 e];exact c)
def kg3 {i fuel:Nat}{listed:Array Bool}{w:Tw}(d:Tmp)(hi:ops[i]? = some o)(e:o.dst=some d)(k:Region.noSelect ops=true)(h:Region.free md ops listed i=true)(j:(Region.ready md ops listed).contains i=true)
 (f:∀b (c:Act) (g:Ta) w,Q (.panic b) { tmps:=g,defers:=c.defers } w->Q (.panic b) c w) (l:Region.wanted o (yielded ops a.tmps)=false) (g:S w) (c:wpAnyH prog md ops Q S fuel (listed.setIfInBounds i true) { tmps:=a.tmps.setIfInBounds d undef,defers:=a.defers } w):wpAnyH prog md ops Q S (fuel+1) listed a w :=
 wpAnyH_take hi k h j (λb a w c=>f b a _ w (by rw[qr1 e]at c;exact c)) (.inr ⟨l,rfl⟩) g (by rw[qr1 e];exact c)
def tj {fuel:Nat}{listed:Array Bool}{w:Tw}(i:Nat)(b:Tmp)(v:Value)(f:S w)(c:wpAnyH prog md ops Q S fuel (listed.setIfInBounds i true) { tmps:=a.tmps.setIfInBounds b v,defers:=a.defers } w)(hi:ops[i]? = some o:=by exact rfl)(h:o.dst=some b:=by exact rfl)(l:Region.noSelect ops=true:=by kernel_rfl)(j:Region.free md ops listed i=true:=by kernel_rfl)(k:(Region.ready md ops listed).contains i=true:=by kernel_rfl)
 (g:∀e (d:Act) (m:Ta) w,Q (.panic e) { tmps:=m,defers:=d.defers } w->Q (.panic e) d w:=by exact λ_ _ _ _ c=>c) (d:Region.wanted o (yielded ops a.tmps)=true:=by rfl) (hy:∀w,S w->(execOp a.eval o).run prog w=.ok (.value v) w:=by intro w f;simp[execOp,go_sem, *]):wpAnyH prog md ops Q S (fuel+1) listed a w :=
 kg2 b hi h l j k g d hy f c
def tn {fuel:Nat}{listed:Array Bool}{w:Tw}(i:Nat)(b:Tmp)(g:S w)(c:wpAnyH prog md ops Q S fuel (listed.setIfInBounds i true) { tmps:=a.tmps.setIfInBounds b undef,defers:=a.defers } w)(hi:ops[i]? = some o:=by exact rfl)(h:o.dst=some b:=by exact rfl)(l:Region.noSelect ops=true:=by kernel_rfl)(j:Region.free md ops listed i=true:=by kernel_rfl)(k:(Region.ready md ops listed).contains i=true:=by kernel_rfl)
 (f:∀e (d:Act) (m:Ta) w,Q (.panic e) { tmps:=m,defers:=d.defers } w->Q (.panic e) d w:=by exact λ_ _ _ _ c=>c) (d:Region.wanted o (yielded ops a.tmps)=false:=by rfl):wpAnyH prog md ops Q S (fuel+1) listed a w :=
 kg3 b hi h l j k f d g c
def ip {p:Prop}(h:p:=by refine m.mono ?_;rintro d w' ⟨b,rfl,l⟩;obtain⟨h,j⟩:=g b w' l;show e (a.put o.dst b) w';rw[qr1 n];exact k.out _ _ h (λ_=>j)):p:=h
def kap {i fuel:Nat}{listed:Array Bool}{w:Tw}{f:FuncId}{args:Ta}{R:Value->Tw->Prop}(c:Tmp)(hi:ops[i]? = some o)(n:o.dst=some c)(r:Region.wanted o (yielded ops a.tmps)=true)(p:Region.ready md ops listed=[i]) (q:(execOp a.eval o).run prog w=.ok (.enter f args) w) (m:Calls prog f args w λd w'=>∃b,d=Rt b/\R b w') (g:∀b w',R b w'->S w'/\wpAnyH prog md ops Q S fuel (listed.setIfInBounds i true) { tmps:=a.tmps.setIfInBounds c b,defers:=a.defers } w'):wpAnyH prog md ops Q S (fuel+1) listed a w:=by refine wpAnyH_ready p fT (AllReadyH.cons hi (λe k=>?_) AllReadyH.nil);rw[Y6 r];unfold Oper.wp;rw[q,Oper.upon_enter];exact ip
def cyY {fuel:Nat}{listed:Array Bool}{w:World}{f:FuncId}{args:Array Value}{v:Value}{c:World->Prop}(i:Nat)(d:Tmp)(k:Calls prog f args w λg b=>g=Rt v/\c b)(j:∀b,c b->S b/\wpAnyH prog md ops Q S fuel (listed.setIfInBounds i true) {tmps:=a.tmps.setIfInBounds d v,defers:=a.defers} b)(hi:ops[i]? =some o:=by exact rfl)(l:o.dst=some d:=by exact rfl)(q:Region.wanted o (yielded ops a.tmps)=true:=by rfl)(n:Region.ready md ops listed=[i]:=by kernel_rfl)(p:(execOp a.eval o).run prog w=.ok (.enter f args) w:=by simp[execOp,go_sem]):wpAnyH prog md ops Q S (fuel+1) listed a w:=kap (R:=λh b=>h=v/\c b) d hi l q n p (k.mono λg b ⟨m,e⟩=>⟨_,m,rfl,e⟩) λh b ⟨g,e⟩=>by subst g;exact j b e
def wdQ {fuel:Nat}{listed:Array Bool}{w:World}(b:Q .normal a w)(c:Region.ready md ops listed=[]:=by kernel_rfl):wpAnyH prog md ops Q S fuel listed a w:=wpAnyH_done c b _
def kaD {i fuel:Nat}{listed:Array Bool}{w w':Tw}{v:Next}(hi:ops[i]? = some o)(j:Region.wanted o (yielded ops a.tmps)=true)(f:Region.ready md ops listed=[i]) (e:o.dst=none) (g:(execOp a.eval o).run prog w=.ok v w') (h:v=.skip) (d:S w') (b:wpAnyH prog md ops Q S fuel (listed.setIfInBounds i true) a w'):wpAnyH prog md ops Q S (fuel+1) listed a w:=by subst h;refine wpAnyH_ready f fT (AllReadyH.cons hi (λk c=>?_) AllReadyH.nil);rw[Y6 j];unfold Oper.wp;rw[g,Oper.upon_skip,e];exact c.out _ _ d (λ_=>b)
end
section
variable {md:Region.Mode} {ops:Array Oper} {Q:Exit->Act->Tw->Prop} {S:Tw->Prop} {o:Oper} {a:Act} {fuel:Nat} {listed:Array Bool} {i:Nat} {rs:List Nat} {w w':Tw}
def kaH {f:FuncId}{args:Ta}{R:Value->Tw->Prop}(c:Tmp)(hi:ops[i]? = some o)(n:o.dst=some c)(r:Region.wanted o (yielded ops a.tmps)=true) (p:(execOp a.eval o).run prog w=.ok (.enter f args) w) (m:Calls prog f args w λd w'=>∃b,d=Rt b/\R b w') (g:∀b w',R b w'->S w'/\wpAnyH prog md ops Q S fuel (listed.setIfInBounds i true) { tmps:=a.tmps.setIfInBounds c b,defers:=a.defers } w') (q:AllReadyH prog md ops Q S fuel listed a w rs):AllReadyH prog md ops Q S fuel listed a w (i :: rs):=by refine AllReadyH.cons hi (λe k=>?_) q;rw[Y6 r];unfold Oper.wp;rw[p,Oper.upon_enter];exact ip
def kam {v:Value}(b:Tmp)(hi:ops[i]? = some o)(g:o.dst=some b)(k:Region.wanted o (yielded ops a.tmps)=true) (h:(execOp a.eval o).run prog w=.ok (.value v) w') (f:S w') (d:wpAnyH prog md ops Q S fuel (listed.setIfInBounds i true) { tmps:=a.tmps.setIfInBounds b v,defers:=a.defers } w') (j:AllReadyH prog md ops Q S fuel listed a w rs):AllReadyH prog md ops Q S fuel listed a w (i :: rs):=by refine AllReadyH.cons hi (λc e=>?_) j;rw[Y6 k];unfold Oper.wp;rw[h];show c (a.put o.dst v) w';rw[qr1 g];exact e.out _ _ f (λ_=>d)
end
structure Vx where
 k:Int
 n:Int
 s:Tb
def vv (u:Vx):Value:=.agg #[.int .i64 u.k,.int .i64 u.n,St u.s]
def kaQ:Vx:=⟨0,0,⟨#[]⟩⟩
def eqX (p q:Vx):Bool:=if p.k=q.k then if p.n=q.n then decide (p.s.toList=q.s.toList) else false else false
def ar (op:Int):Int:=if op=2∨op=3∨op=21∨op=22∨op=23∨op=24∨op=25 then 1 else if op=16 then 3 else if 4<=op/\op<=20 then 2 else 0
def qgo (op:Int):(op=2∨op=3∨op=21∨op=22∨op=23∨op=24∨op=25∨op=16)∨((¬ op=2/\¬ op=3/\¬ op=21/\¬ op=22)/\(¬ op=23/\¬ op=24/\¬ op=25/\¬ op=16)/\(op<4∨(4<=op/\op<=20)∨(4<=op/\20<op))):=by omega
def iq {p:Prop}(h:p:=by rw[a];go_enter func135,ntmps135;go_wp2;go_ret;exact⟨rfl,rfl⟩):p:=h
def q6l (op:Int)(w:Tw):Calls prog 135 #[Yf op] w λa b=>a=Rt (Yf (ar op))/\b=w:=by rcases qgo op with (rfl | rfl | rfl | rfl | rfl | rfl | rfl | rfl) | ⟨⟨g,h,i,j⟩,⟨k,l,m,e⟩,b⟩;(case inr=>have c:¬ (op=2∨op=3∨op=21∨op=22∨op=23∨op=24∨op=25):=fP;have d:=e;replace g:(op==2)=false:=Yl.2 g;replace h:(op==3)=false:=Yl.2 h;replace i:(op==21)=false:=Yl.2 i;replace j:(op==22)=false:=Yl.2 j;replace k:(op==23)=false:=Yl.2 k;replace l:(op==24)=false:=Yl.2 l;replace m:(op==25)=false:=Yl.2 m;replace e:(op==16)=false:=Yl.2 e;rcases b with b | ⟨b,f⟩ | ⟨b,f⟩;{have a:ar op=0:=(by rw[ar,Y2 c,Y2 d,Y2 fP]);exact iq};{have a:ar op=2:=(by rw[ar,Y2 c,Y2 d,Y6 ⟨b,f⟩]);exact iq};have a:ar op=0:=(by rw[ar,Y2 c,Y2 d,Y2 fP]);exact iq);all_goals ( go_enter func135,ntmps135;go_wp2;go_ret;exact⟨rfl,rfl⟩)
section
variable {md:Region.Mode} {ops:Array Oper} {Q:Exit->Act->Tw->Prop} {S:Tw->Prop} {o:Oper} {l l':Tl} {lb lb':List Bool}
def kaG {i fuel:Nat}{v:Value}{w:Tw}(b:Tmp)(hi:ops[i]? = some o)(g:o.dst=some b)(m:Region.noSelect ops=true)(h:Region.free md ops lb.toArray i=true)(k:(Region.ready md ops lb.toArray).contains i=true)
 (e:∀d (c:Act) (f:Ta) w,Q (.panic d) { tmps:=f,defers:=c.defers } w->Q (.panic d) c w) (n:Region.wanted o (yielded ops l.toArray)=true) (hy:∀w,S w->(execOp (Act.eval { tmps:=l.toArray,defers:=[] }) o).run prog w=.ok (.value v) w) (d:S w) (j:l.set b v=l') (f:lb.set i true=lb') (c:wpAnyH prog md ops Q S fuel lb'.toArray { tmps:=l'.toArray,defers:=[] } w):wpAnyH prog md ops Q S (fuel+1) lb.toArray { tmps:=l.toArray,defers:=[] } w :=
 kg2 (a:={ tmps:=l.toArray,defers:=[] }) b hi g m h k e n hy d (by
  rw[Zy,Zy,j,f];exact c)
def kfX {i fuel:Nat}{w:Tw}(b:Tmp)(hi:ops[i]? = some o)(g:o.dst=some b)(m:Region.noSelect ops=true)(h:Region.free md ops lb.toArray i=true)(k:(Region.ready md ops lb.toArray).contains i=true)
 (e:∀d (c:Act) (f:Ta) w,Q (.panic d) { tmps:=f,defers:=c.defers } w->Q (.panic d) c w) (n:Region.wanted o (yielded ops l.toArray)=false) (d:S w) (j:l.set b undef=l') (f:lb.set i true=lb') (c:wpAnyH prog md ops Q S fuel lb'.toArray { tmps:=l'.toArray,defers:=[] } w):wpAnyH prog md ops Q S (fuel+1) lb.toArray { tmps:=l.toArray,defers:=[] } w :=
 kg3 (a:={ tmps:=l.toArray,defers:=[] }) b hi g m h k e n d (by
  rw[Zy,Zy,j,f];exact c)
def tkL {fuel:Nat}{w:Tw}(i:Nat)(a:Tmp)(v:Value)(f:S w)(b:wpAnyH prog md ops Q S fuel lb'.toArray { tmps:=l'.toArray,defers:=[] } w)
 (hi:ops[i]? = some o:=by exact rfl) (hy:∀w,S w->(execOp (Act.eval { tmps:=l.toArray,defers:=[] }) o).run prog w=.ok (.value v) w:=by intro _ _;first | rfl | simp[execOp,go_sem, *]) (g:o.dst=some a:=by exact rfl) (k:Region.noSelect ops=true:=by kernel_rfl) (h:Region.free md ops lb.toArray i=true:=by kernel_rfl) (j:(Region.ready md ops lb.toArray).contains i=true:=by kernel_rfl)
 (e:∀d (c:Act) (m:Ta) w,Q (.panic d) { tmps:=m,defers:=c.defers } w->Q (.panic d) c w:=by exact λ_ _ _ _ b=>b) (m:Region.wanted o (yielded ops l.toArray)=true:=by rfl) (d:l.set a v=l':=by(first | simp only[Yj,Yk] | skip);rfl) (c:lb.set i true=lb':=by(first | simp only[Yj,Yk] | skip);rfl):wpAnyH prog md ops Q S (fuel+1) lb.toArray { tmps:=l.toArray,defers:=[] } w :=
 kaG a hi g k h j e m hy f d c b
def skL {fuel:Nat}{w:Tw}(i:Nat)(a:Tmp)(f:S w)(b:wpAnyH prog md ops Q S fuel lb'.toArray { tmps:=l'.toArray,defers:=[] } w)
 (hi:ops[i]? = some o:=by exact rfl) (g:o.dst=some a:=by exact rfl) (k:Region.noSelect ops=true:=by kernel_rfl) (h:Region.free md ops lb.toArray i=true:=by kernel_rfl) (j:(Region.ready md ops lb.toArray).contains i=true:=by kernel_rfl)
 (e:∀d (c:Act) (m:Ta) w,Q (.panic d) { tmps:=m,defers:=c.defers } w->Q (.panic d) c w:=by exact λ_ _ _ _ b=>b) (m:Region.wanted o (yielded ops l.toArray)=false:=by rfl) (d:l.set a undef=l':=by(first | simp only[Yj,Yk] | skip);rfl) (c:lb.set i true=lb':=by(first | simp only[Yj,Yk] | skip);rfl):wpAnyH prog md ops Q S (fuel+1) lb.toArray { tmps:=l.toArray,defers:=[] } w :=
 kfX a hi g k h j e m f d c b
def kav {n i fuel:Nat}{v:Value}{w:Tw}(c:l.set n v=l')(b:lb.set i true=lb')(a:wpAnyH prog md ops Q S fuel lb'.toArray { tmps:=l'.toArray,defers:=[] } w):wpAnyH prog md ops Q S fuel (lb.toArray.setIfInBounds i true) { tmps:=l.toArray.setIfInBounds n v,defers:=[] } w:=by grind
def khG {i fuel:Nat}{a:Act}{w:Tw}(c:lb.set i true=lb')(b:wpAnyH prog md ops Q S fuel lb'.toArray a w):wpAnyH prog md ops Q S fuel (lb.toArray.setIfInBounds i true) a w:=by grind
end
section
variable {md:Region.Mode} {ops:Array Oper} {Q:Exit->Act->Tw->Prop} {S:Tw->Prop} {o:Oper} {l l':Tl} {lb lb':List Bool} {d:Tmp} {v:Value}
def tkA {fuel:Nat}{w:Tw}(i:Nat)(b:S w)(a:wpAnyH prog md ops Q S fuel lb'.toArray { tmps:=l'.toArray,defers:=[] } w)
 (hi:ops[i]? = some o:=by exact rfl) (g:o.dst=some d:=by exact rfl) (k:Region.noSelect ops=true:=by kernel_rfl) (h:Region.free md ops lb.toArray i=true:=by kernel_rfl) (j:(Region.ready md ops lb.toArray).contains i=true:=by kernel_rfl)
 (f:∀e (c:Act) (m:Ta) w,Q (.panic e) { tmps:=m,defers:=c.defers } w->Q (.panic e) c w:=by exact λ_ _ _ _ a=>a) (m:Region.wanted o (yielded ops l.toArray)=true:=by rfl)
 (hy:∀w,S w->(execOp (Act.eval { tmps:=l.toArray,defers:=[] }) o).run prog w=.ok (.value v) w:=by intro w b;first | (simp[execOp,go_sem,b, *] <;> rfl) | rfl)
 (e:l.set d v=l':=by(first | simp only[Yj,Yk] | skip);rfl) (c:lb.set i true=lb':=by(first | simp only[Yj,Yk] | skip);rfl):wpAnyH prog md ops Q S (fuel+1) lb.toArray { tmps:=l.toArray,defers:=[] } w :=
 kaG d hi g k h j f m hy b e c a
end
def nx:List Bool->Nat
 | true :: l=>nx l+1
 | _=>0
section
variable {md:Region.Mode} {ops:Array Oper} {Q:Exit->Act->Tw->Prop} {S:Tw->Prop} {o:Oper} {l l':Tl} {lb lb':List Bool} {d:Tmp} {v:Value} {i fuel:Nat} {w:Tw}
def rep (n:Nat){a:Act}(b:wpAnyH prog md ops Q S n (List.replicate n false).toArray a w)(c:ops.size=n:=by kernel_rfl):wpAnyH prog md ops Q S ops.size (Array.replicate ops.size false) a w:=by subst c;simpa using b
def tkN (b:S w)(a:wpAnyH prog md ops Q S fuel lb'.toArray { tmps:=l'.toArray,defers:=[] } w)
 (_hn:nx lb=i:=by(first | simp only[Ol,Ok,nx,Nat.reduceAdd] | skip);rfl) (hi:ops[i]? = some o:=by exact rfl) (g:o.dst=some d:=by exact rfl) (m:Region.wanted o (yielded ops l.toArray)=true:=by rfl) (k:Region.noSelect ops=true:=by kernel_rfl) (h:Region.free md ops lb.toArray i=true:=by kernel_rfl) (j:(Region.ready md ops lb.toArray).contains i=true:=by kernel_rfl)
 (f:∀e (c:Act) (n:Ta) w,Q (.panic e) { tmps:=n,defers:=c.defers } w->Q (.panic e) c w:=by exact λ_ _ _ _ a=>a)
 (hy:∀w,S w->(execOp (Act.eval { tmps:=l.toArray,defers:=[] }) o).run prog w=.ok (.value v) w:=by intro w b;first | (simp[execOp,go_sem,b, *] <;> rfl) | rfl)
 (e:l.set d v=l':=by(first | simp only[Yj,Yk] | skip);rfl) (c:lb.set i true=lb':=by(first | simp only[Ol,Ok,Yj,Yk] | skip);rfl):wpAnyH prog md ops Q S (fuel+1) lb.toArray { tmps:=l.toArray,defers:=[] } w :=
 kaG d hi g k h j f m hy b e c a
def skN (f:S w)(a:wpAnyH prog md ops Q S fuel lb'.toArray { tmps:=l'.toArray,defers:=[] } w)
 (_hn:nx lb=i:=by(first | simp only[Ol,Ok,nx,Nat.reduceAdd] | skip);rfl) (hi:ops[i]? = some o:=by exact rfl) (g:o.dst=some d:=by exact rfl) (m:Region.wanted o (yielded ops l.toArray)=false:=by rfl) (k:Region.noSelect ops=true:=by kernel_rfl) (h:Region.free md ops lb.toArray i=true:=by kernel_rfl) (j:(Region.ready md ops lb.toArray).contains i=true:=by kernel_rfl)
 (e:∀c (b:Act) (n:Ta) w,Q (.panic c) { tmps:=n,defers:=b.defers } w->Q (.panic c) b w:=by exact λ_ _ _ _ a=>a)
 (c:l.set d undef=l':=by(first | simp only[Yj,Yk] | skip);rfl) (b:lb.set i true=lb':=by(first | simp only[Ol,Ok,Yj,Yk] | skip);rfl):wpAnyH prog md ops Q S (fuel+1) lb.toArray { tmps:=l.toArray,defers:=[] } w :=
 kfX d hi g k h j e m f c b a
def rp {n:Nat}{a:Act}(b:wpAnyH prog md ops Q S n (List.replicate n false).toArray a w)(c:ops.size=n:=by simp only[Zh,Yy,Za,Nat.reduceAdd];rfl):wpAnyH prog md ops Q S ops.size (Array.replicate ops.size false) a w:=rep n b c
def tkX (c:S w)(b:wpAnyH prog md ops Q S fuel lb'.toArray { tmps:=l'.toArray,defers:=[] } w) (_hn:nx lb=i:=by(first | simp only[Ol,Ok,nx,Nat.reduceAdd] | skip);rfl) (hi:ops[i]? = some o:=by exact rfl) (h:o.dst=some d:=by exact rfl) (a:(Region.wanted o (yielded ops l.toArray)=true/\∀w,S w->(execOp (Act.eval { tmps:=l.toArray,defers:=[] }) o).run prog w=.ok (.value v) w)∨(Region.wanted o (yielded ops l.toArray)=false/\v=undef):=by first | exact .inl ⟨gb,by intro w c;first | (simp[execOp,go_sem,c, *] <;> rfl) | rfl⟩ | exact .inr ⟨gb,gb⟩) (m:Region.noSelect ops=true:=by kernel_rfl) (j:Region.free md ops lb.toArray i=true:=by kernel_rfl) (k:(Region.ready md ops lb.toArray).contains i=true:=by kernel_rfl) (g:∀f (e:Act) (n:Ta) w,Q (.panic f) { tmps:=n,defers:=e.defers } w->Q (.panic f) e w:=by exact λ_ _ _ _ b=>b) (f:l.set d v=l':=by(first | simp only[Yj,Yk] | skip);rfl) (e:lb.set i true=lb':=by(first | simp only[Ol,Ok,Yj,Yk] | skip);rfl):wpAnyH prog md ops Q S (fuel+1) lb.toArray { tmps:=l.toArray,defers:=[] } w:=by rcases a with ⟨a,n⟩ | ⟨a,rfl⟩;{exact kaG d hi h m j k g a n c f e b};exact kfX d hi h m j k g a c f e b
end
