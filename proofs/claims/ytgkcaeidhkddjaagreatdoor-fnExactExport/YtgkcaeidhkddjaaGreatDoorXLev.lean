import Derived.Test.YtgkcaeidhkddjaaGreatDoorXExM
set_option maxRecDepth 100000
set_option maxHeartbeats 20000000
namespace Go.Proofs.YtgkcaeidhkddjaaGreatDoor
open Go Go.RowKit
theorem qja {op:Int} (h:¬ (2<=op/\op<=15)):lvl op=7:=by
 unfold lvl;rw [if_neg (by omega),if_neg (by omega),if_neg (by omega),if_neg (by omega),if_neg (by omega),if_neg (by omega)]
theorem q5i (op:Int) (w:World):Calls Tryz.prog 192 #[.int .i64 op] w fun e w'=>e=.returned (.int .i64 (lvl op))/\w'=w:=by
 by_cases h:2<=op/\op<=15
 . have h:op=2 ∨ op=3 ∨ op=4 ∨ op=5 ∨ op=6 ∨ op=7 ∨ op=8 ∨ op=9 ∨ op=10 ∨ op=11 ∨ op=12 ∨ op=13 ∨ op=14 ∨ op=15:=by omega
   rcases h with rfl | rfl | rfl | rfl | rfl | rfl | rfl | rfl | rfl | rfl | rfl | rfl | rfl | rfl
   all_goals
    go_enter Tryz.func192,Tryz.ntmps192
    go_wp2
    go_ret
    exact ⟨rfl,rfl⟩
 . rw [qja h]
   have n2:(op == 2)=false:=beq_eq_false_iff_ne.2 (by omega)
   have n3:(op == 3)=false:=beq_eq_false_iff_ne.2 (by omega)
   have n4:(op == 4)=false:=beq_eq_false_iff_ne.2 (by omega)
   have n5:(op == 5)=false:=beq_eq_false_iff_ne.2 (by omega)
   have n6:(op == 6)=false:=beq_eq_false_iff_ne.2 (by omega)
   have n7:(op == 7)=false:=beq_eq_false_iff_ne.2 (by omega)
   have n8:(op == 8)=false:=beq_eq_false_iff_ne.2 (by omega)
   have n9:(op == 9)=false:=beq_eq_false_iff_ne.2 (by omega)
   have n10:(op == 10)=false:=beq_eq_false_iff_ne.2 (by omega)
   have n11:(op == 11)=false:=beq_eq_false_iff_ne.2 (by omega)
   have n12:(op == 12)=false:=beq_eq_false_iff_ne.2 (by omega)
   have n13:(op == 13)=false:=beq_eq_false_iff_ne.2 (by omega)
   have n14:(op == 14)=false:=beq_eq_false_iff_ne.2 (by omega)
   have n15:(op == 15)=false:=beq_eq_false_iff_ne.2 (by omega)
   rcases (show op<2 ∨ 15<op by omega) with h' | h'
   all_goals
    clear h
    go_enter Tryz.func192,Tryz.ntmps192
    go_wp2
    go_ret
    exact ⟨rfl,rfl⟩
theorem q5w (op:Int) (w:World):Calls Tryz.prog 240 #[.int .i64 op] w fun e w'=>e=.returned (.int .i64 (lvl op))/\w'=w:=by
 by_cases h:2<=op/\op<=15
 . have h:op=2 ∨ op=3 ∨ op=4 ∨ op=5 ∨ op=6 ∨ op=7 ∨ op=8 ∨ op=9 ∨ op=10 ∨ op=11 ∨ op=12 ∨ op=13 ∨ op=14 ∨ op=15:=by omega
   rcases h with rfl | rfl | rfl | rfl | rfl | rfl | rfl | rfl | rfl | rfl | rfl | rfl | rfl | rfl
   all_goals
    go_enter Tryz.func240,Tryz.ntmps240
    go_wp2
    go_ret
    exact ⟨rfl,rfl⟩
 . rw [qja h]
   have n2:(op == 2)=false:=beq_eq_false_iff_ne.2 (by omega)
   have n3:(op == 3)=false:=beq_eq_false_iff_ne.2 (by omega)
   have n4:(op == 4)=false:=beq_eq_false_iff_ne.2 (by omega)
   have n5:(op == 5)=false:=beq_eq_false_iff_ne.2 (by omega)
   have n6:(op == 6)=false:=beq_eq_false_iff_ne.2 (by omega)
   have n7:(op == 7)=false:=beq_eq_false_iff_ne.2 (by omega)
   have n8:(op == 8)=false:=beq_eq_false_iff_ne.2 (by omega)
   have n9:(op == 9)=false:=beq_eq_false_iff_ne.2 (by omega)
   have n10:(op == 10)=false:=beq_eq_false_iff_ne.2 (by omega)
   have n11:(op == 11)=false:=beq_eq_false_iff_ne.2 (by omega)
   have n12:(op == 12)=false:=beq_eq_false_iff_ne.2 (by omega)
   have n13:(op == 13)=false:=beq_eq_false_iff_ne.2 (by omega)
   have n14:(op == 14)=false:=beq_eq_false_iff_ne.2 (by omega)
   have n15:(op == 15)=false:=beq_eq_false_iff_ne.2 (by omega)
   rcases (show op<2 ∨ 15<op by omega) with h' | h'
   all_goals
    clear h
    go_enter Tryz.func240,Tryz.ntmps240
    go_wp2
    go_ret
    exact ⟨rfl,rfl⟩
theorem q1u (op:Int) (w:World) (h0:16<=op) (h1:op<=25):Calls Tryz.prog 194 #[.int .i64 op] w fun e w'=>e=.returned (.string (wrd op))/\w'=w:=by
 have h:op=16 ∨ op=17 ∨ op=18 ∨ op=19 ∨ op=20 ∨ op=21 ∨ op=22 ∨ op=23 ∨ op=24 ∨ op=25:=by omega
 clear h0 h1
 rcases h with rfl | rfl | rfl | rfl | rfl | rfl | rfl | rfl | rfl | rfl
 all_goals
  go_enter Tryz.func194,Tryz.ntmps194
  go_wp2
  go_ret
  exact ⟨rfl,rfl⟩
theorem q8c (op:Int) (w:World) (h0:4<=op) (h1:op<=15):Calls Tryz.prog 195 #[.int .i64 op] w fun e w'=>e=.returned (.string (wrd op))/\w'=w:=by
 have h:op=4 ∨ op=5 ∨ op=6 ∨ op=7 ∨ op=8 ∨ op=9 ∨ op=10 ∨ op=11 ∨ op=12 ∨ op=13 ∨ op=14 ∨ op=15:=by omega
 clear h0 h1
 rcases h with rfl | rfl | rfl | rfl | rfl | rfl | rfl | rfl | rfl | rfl | rfl | rfl
 all_goals
  go_enter Tryz.func195,Tryz.ntmps195
  go_wp2
  go_ret
  exact ⟨rfl,rfl⟩
end Go.Proofs.YtgkcaeidhkddjaaGreatDoor
