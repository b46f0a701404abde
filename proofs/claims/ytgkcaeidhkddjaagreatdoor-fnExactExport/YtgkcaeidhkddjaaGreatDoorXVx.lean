import Derived.Test.YtgkcaeidhkddjaaGreatDoorXBase
set_option maxRecDepth 100000
set_option maxHeartbeats 20000000
namespace Go.Proofs.YtgkcaeidhkddjaaGreatDoor
open Go Go.RowKit
structure Vx where
 k:Int
 n:Int
 s:ByteArray
def vv (u:Vx):Value:=.agg #[.int .i64 u.k,.int .i64 u.n,.string u.s]
def blankX:Vx:=⟨0,0,⟨#[]⟩⟩
def eqX (p q:Vx):Bool:=if p.k=q.k then if p.n=q.n then decide (p.s.toList=q.s.toList) else false else false
def ar (op:Int):Int:=if op=2 ∨ op=3 ∨ op=21 ∨ op=22 ∨ op=23 ∨ op=24 ∨ op=25 then 1 else if op=16 then 3 else if 4<=op/\op<=20 then 2 else 0
theorem qdp (op:Int):(op=2 ∨ op=3 ∨ op=21 ∨ op=22 ∨ op=23 ∨ op=24 ∨ op=25 ∨ op=16) ∨ ((¬ op=2/\¬ op=3/\¬ op=21/\¬ op=22)/\(¬ op=23/\¬ op=24/\¬ op=25/\¬ op=16)/\(op<4 ∨ (4<=op/\op<=20) ∨ (4<=op/\20<op))):=by omega
theorem q5f (op:Int) (w:World):Calls Tryz.prog 223 #[.int .i64 op] w fun e w'=>e=.returned (.int .i64 (ar op))/\w'=w:=by
 rcases qdp op with (rfl | rfl | rfl | rfl | rfl | rfl | rfl | rfl) | ⟨⟨n1,n2,n3,n4⟩,⟨n5,n6,n7,n8⟩,h⟩
 case inr =>
  have e0:¬ (op=2 ∨ op=3 ∨ op=21 ∨ op=22 ∨ op=23 ∨ op=24 ∨ op=25):=by omega
  have m8:=n8
  replace n1:(op == 2)=false:=beq_eq_false_iff_ne.2 n1
  replace n2:(op == 3)=false:=beq_eq_false_iff_ne.2 n2
  replace n3:(op == 21)=false:=beq_eq_false_iff_ne.2 n3
  replace n4:(op == 22)=false:=beq_eq_false_iff_ne.2 n4
  replace n5:(op == 23)=false:=beq_eq_false_iff_ne.2 n5
  replace n6:(op == 24)=false:=beq_eq_false_iff_ne.2 n6
  replace n7:(op == 25)=false:=beq_eq_false_iff_ne.2 n7
  replace n8:(op == 16)=false:=beq_eq_false_iff_ne.2 n8
  rcases h with h | ⟨h,h'⟩ | ⟨h,h'⟩
  . have e:ar op=0:=by rw [ar,if_neg e0,if_neg m8,if_neg (by omega)]
    rw [e]
    clear e e0 m8
    go_enter Tryz.func223,Tryz.ntmps223
    go_wp2
    go_ret
    exact ⟨rfl,rfl⟩
  . have e:ar op=2:=by rw [ar,if_neg e0,if_neg m8,if_pos ⟨h,h'⟩]
    rw [e]
    clear e e0 m8
    go_enter Tryz.func223,Tryz.ntmps223
    go_wp2
    go_ret
    exact ⟨rfl,rfl⟩
  . have e:ar op=0:=by rw [ar,if_neg e0,if_neg m8,if_neg (by omega)]
    rw [e]
    clear e e0 m8
    go_enter Tryz.func223,Tryz.ntmps223
    go_wp2
    go_ret
    exact ⟨rfl,rfl⟩
 all_goals (
  go_enter Tryz.func223,Tryz.ntmps223
  go_wp2
  go_ret
  exact ⟨rfl,rfl⟩)
end Go.Proofs.YtgkcaeidhkddjaaGreatDoor
