import Derived.Test.YtebbgodlijlioaaGreatDoorW00
set_option maxRecDepth 100000
set_option maxHeartbeats 64000000
namespace Go.Proofs.YtebbgodlijlioaaGreatDoor
open Go Go.RowKit
structure Vx where
 k:Int
 n:Int
 s:ByteArray
def vv (u:Vx):Value:=.agg #[.int .i64 u.k,.int .i64 u.n,.string u.s]
def blankX:Vx:=⟨0,0,⟨#[]⟩⟩
def Cel (w:World)(b o:Nat)(u:Vx):Prop:=b<w.heap.size/\w.cell? ⟨b,o,none⟩=some (.int .i64 u.k)/\w.cell? ⟨b,o+1,none⟩=some (.int .i64 u.n)/\w.cell? ⟨b,o+2,none⟩=some (.string u.s)
theorem Cel.mono {w w':World}{b o:Nat}{u:Vx}(h:Cel w b o u)(hb:Below w.heap.size w w'):Cel w' b o u :=
 ⟨Y7 h.1 hb.size,(hb.cell h.1).trans h.2.1,(hb.cell h.1).trans h.2.2.1,(hb.cell h.1).trans h.2.2.2⟩
def eqX (p q:Vx):Bool:=if p.k=q.k then if p.n=q.n then decide (p.s.toList=q.s.toList) else false else false
def Vals (w:World)(a:Option Addr)(m:Nat)(f:Nat->Vx):Prop:=∀k,k<m->∃b o,a=some ⟨b,o,none⟩/\Cel w b (o+k*3) (f k)
theorem Vals.mono {w w':World}{a:Option Addr}{m:Nat}{f:Nat->Vx}(h:Vals w a m f)(hb:Below w.heap.size w w'):Vals w' a m f:=fun k hk=>by
 obtain⟨b,o,e,hc⟩:=h k hk
 exact⟨b,o,e,hc.mono hb⟩
def ar (op:Int):Int:=if op=2∨op=3∨op=21∨op=22∨op=23∨op=24∨op=25 then 1 else if op=16 then 3 else if 4<=op/\op<=20 then 2 else 0
theorem qc3 (op:Int):(op=2∨op=3∨op=21∨op=22∨op=23∨op=24∨op=25∨op=16)∨((¬ op=2/\¬ op=3/\¬ op=21/\¬ op=22)/\(¬ op=23/\¬ op=24/\¬ op=25/\¬ op=16)/\(op<4∨(4<=op/\op<=20)∨(4<=op/\20<op))):=by omega
theorem q50 (op:Int)(w:World):Calls Tryz.prog 138 #[J9 op] w fun e w'=>e=.returned (J9 (ar op))/\w'=w:=by
 rcases qc3 op with (rfl | rfl | rfl | rfl | rfl | rfl | rfl | rfl) | ⟨⟨n1,n2,n3,n4⟩,⟨n5,n6,n7,n8⟩,h⟩
 case inr =>
  have e0:¬ (op=2∨op=3∨op=21∨op=22∨op=23∨op=24∨op=25):=by omega
  have m8:=n8;replace n1:(op==2)=false:=Yf.2 n1;replace n2:(op==3)=false:=Yf.2 n2;replace n3:(op==21)=false:=Yf.2 n3;replace n4:(op==22)=false:=Yf.2 n4;replace n5:(op==23)=false:=Yf.2 n5;replace n6:(op==24)=false:=Yf.2 n6;replace n7:(op==25)=false:=Yf.2 n7;replace n8:(op==16)=false:=Yf.2 n8;rcases h with h | ⟨h,h'⟩ | ⟨h,h'⟩
  . have e:ar op=0:=by rw[ar,Yu e0,Yu m8,Yu (by omega)]
    rw[e];clear e e0 m8;go_enter Tryz.func138,Tryz.ntmps138;go_wp2;go_ret;exact⟨rfl,rfl⟩
  . have e:ar op=2:=by rw[ar,Yu e0,Yu m8,Yy ⟨h,h'⟩]
    rw[e];clear e e0 m8;go_enter Tryz.func138,Tryz.ntmps138;go_wp2;go_ret;exact⟨rfl,rfl⟩
  . have e:ar op=0:=by rw[ar,Yu e0,Yu m8,Yu (by omega)]
    rw[e];clear e e0 m8;go_enter Tryz.func138,Tryz.ntmps138;go_wp2;go_ret;exact⟨rfl,rfl⟩
 all_goals (
  go_enter Tryz.func138,Tryz.ntmps138;go_wp2;go_ret;exact⟨rfl,rfl⟩)
end Go.Proofs.YtebbgodlijlioaaGreatDoor
