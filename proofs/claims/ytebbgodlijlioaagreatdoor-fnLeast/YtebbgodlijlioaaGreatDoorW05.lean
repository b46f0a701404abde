import Derived.Test.YtebbgodlijlioaaGreatDoorW02
import Derived.Test.YtebbgodlijlioaaGreatDoorW03
set_option maxRecDepth 100000
set_option maxHeartbeats 64000000
namespace Go.Proofs.YtebbgodlijlioaaGreatDoor
open Go Go.RowKit
theorem q51 (w:World):Calls Tryz.prog 163 #[] w fun e w'=>e=.returned (.agg #[J9 0,J9 0,Yb])/\Below w.heap.size w w':=by
 go_enter Tryz.func163,Tryz.ntmps163
 go_wp2
 exact bodyPost_ret (v:=.agg #[J9 0,J9 0,Yb]) (by simp[results,Tryz.results163,go_sem]) rfl ⟨rfl,(bR _ _).alloc (nR _) _⟩
theorem q7e (b:Bool)(w:World):Calls Tryz.prog 99 #[.bool b] w fun e w'=>e=.returned (.agg #[J9 2,J9 (if b then 1 else 0),Yb])/\Below w.heap.size w w':=by
 cases b
 . go_enter Tryz.func99,Tryz.ntmps99
   go_wp2;exact bodyPost_ret (v:=.agg #[J9 2,J9 0,Yb]) (by simp[results,Tryz.results99,go_sem]) rfl ⟨rfl,(bR _ _).alloc (nR _) _⟩
 . go_enter Tryz.func99,Tryz.ntmps99
   go_wp2;exact bodyPost_ret (v:=.agg #[J9 2,J9 1,Yb]) (by simp[results,Tryz.results99,go_sem]) rfl ⟨rfl,(bR _ _).alloc (nR _) _⟩
theorem qa6 (n:Int)(w:World):Calls Tryz.prog 78 #[J9 n] w fun e w'=>e=.returned (.agg #[J9 1,J9 n,Yb])/\Below w.heap.size w w':=by
 go_enter Tryz.func78,Tryz.ntmps78
 go_wp2
 exact bodyPost_ret (v:=.agg #[J9 1,J9 n,Yb]) (by simp[results,Tryz.results78,go_sem]) rfl ⟨rfl,(bR _ _).alloc (nR _) _⟩
theorem q7f (s:ByteArray)(w:World):Calls Tryz.prog 165 #[.string s] w fun e w'=>e=.returned (.agg #[J9 3,J9 0,.string s])/\Below w.heap.size w w':=by
 go_enter Tryz.func165,Tryz.ntmps165
 go_wp2
 exact bodyPost_ret (v:=.agg #[J9 3,J9 0,.string s]) (by simp[results,Tryz.results165,go_sem]) rfl ⟨rfl,(bR _ _).alloc (nR _) _⟩
theorem q19 (w:World):Calls Tryz.prog 203 #[] w fun e w'=>e=.returned (.agg #[J9 0,J9 0,Yb])/\Below w.heap.size w w':=by
 go_enter Tryz.func203,Tryz.ntmps203
 go_wp2
 exact bodyPost_ret (v:=.agg #[J9 0,J9 0,Yb]) (by simp[results,Tryz.results203,go_sem]) rfl ⟨rfl,(bR _ _).alloc (nR _) _⟩
theorem q30 (s:ByteArray)(w:World):Calls Tryz.prog 175 #[.string s] w fun e w'=>e=.returned (.agg #[J9 3,J9 0,.string s])/\Below w.heap.size w w':=by
 go_enter Tryz.func175,Tryz.ntmps175
 go_wp2
 exact bodyPost_ret (v:=.agg #[J9 3,J9 0,.string s]) (by simp[results,Tryz.results175,go_sem]) rfl ⟨rfl,(bR _ _).alloc (nR _) _⟩
theorem q1n (op:Int)(w:World):Calls Tryz.prog 204 #[J9 op] w fun e w'=>e=.returned (.bool (decide (2<=op/\op<=25)))/\w'=w:=by
 by_cases h2:2<=op
 . by_cases h25:op<=25
   . rw[Ym ⟨h2,h25⟩]
     go_enter Tryz.func204,Tryz.ntmps204;go_wp2;go_ret;exact⟨by simp,rfl⟩
   . have e:decide (2<=op/\op<=25)=false:=Yi (fun h=>h25 h.2)
     rw[e];clear e;go_enter Tryz.func204,Tryz.ntmps204;go_wp2;go_ret;exact⟨by simp,rfl⟩
 . have e:decide (2<=op/\op<=25)=false:=Yi (fun h=>h2 h.1)
   rw[e];clear e;go_enter Tryz.func204,Tryz.ntmps204;go_wp2;go_ret;exact⟨by rfl,rfl⟩
def opn (op:Int):Int:=if op=2∨op=3∨op=21∨op=22∨op=23∨op=24∨op=25 then 1 else if op=16 then 3 else 2
theorem ar_opn (op:Int):ar op=if 2<=op/\op<=25 then opn op else 0:=by
 unfold ar opn
 by_cases h1:op=2∨op=3∨op=21∨op=22∨op=23∨op=24∨op=25
 . rw[Yy h1,Yy h1,Yy (by omega)]
 . rw[Yu h1,Yu h1]
   by_cases h2:op=16
   . rw[Yy h2,Yy h2,Yy (by omega)]
   . rw[Yu h2,Yu h2]
     by_cases h3:4<=op/\op<=20
     . rw[Yy h3,Yy (by omega)]
     . rw[Yu h3,Yu (by omega)]
theorem q20 (op:Int)(w:World):Calls Tryz.prog 205 #[J9 op] w fun e w'=>e=.returned (J9 (opn op))/\w'=w:=by
 rcases qc3 op with (rfl | rfl | rfl | rfl | rfl | rfl | rfl | rfl) | ⟨⟨n1,n2,n3,n4⟩,⟨n5,n6,n7,n8⟩,-⟩
 case inr =>
  have e:opn op=2:=by rw[opn,Yu (by omega),Yu n8]
  rw[e];clear e;go_enter Tryz.func205,Tryz.ntmps205;go_wp2;go_ret;exact⟨rfl,rfl⟩
 all_goals (
  go_enter Tryz.func205,Tryz.ntmps205;go_wp2;go_ret;exact⟨rfl,rfl⟩)
end Go.Proofs.YtebbgodlijlioaaGreatDoor
