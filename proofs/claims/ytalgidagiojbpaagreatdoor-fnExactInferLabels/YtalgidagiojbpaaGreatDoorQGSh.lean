import Derived.Test.YtalgidagiojbpaaGreatDoorQVal
import Derived.Test.YtalgidagiojbpaaGreatDoorQGDi
import Derived.Test.YtalgidagiojbpaaGreatDoorQShowM
import Derived.Test.YtalgidagiojbpaaGreatDoorShelf
import Derived.Lib.AppendIntMem
/- The program's decimal and plain text. -/
namespace Go.Proofs.YtalgidagiojbpaaGreatDoor
open Go Go.RowKit
theorem ret_str {a b : ByteArray} (h : a = b) : Ending.returned (.string a) = .returned (.string b) := by rw [h]
def Pow (w : World) : Prop := Lib.TabIs Tryz.prog w "internal/strconv.uint64pow10" .u64 Lib.pow10Tab
theorem Pow.mono {w w' : World} (h : Pow w) (hb : Below w.heap.size w w') : Pow w' := Lib.tabBelow_of_tabIs h w' hb
set_option maxRecDepth 100000 in
set_option maxHeartbeats 1000000 in
theorem decimal_any (x : Int) (w : World) (h0 : -9223372036854775808 <= x) (h1 : x <= 9223372036854775807) (ht : Pow w) :
 Calls Tryz.prog 195 #[.int .i64 x] w fun e w' => e = .returned (.string ⟨(Lib.itoa x).toArray⟩) /\ Below w.heap.size w w' := by
 have HX := h_ (And.intro h0 h1); clear h0 h1
 go_enter Tryz.func195, Tryz.ntmps195
 go_wp2_with fail
 refine (Tryz.strconv_FormatInt_10 x (u_ HX).1 (u_ HX).2 _ ht).mono ?_
 rintro e w1 ⟨rfl, k, os, rfl⟩
 have hb := h_ (Lib.below_grow w.heap.size w (Nat.le_refl _) k os)
 go_wp2
 go_ret
 exact ⟨rfl, u_ hb⟩
theorem fb_true : (⟨(Lib.formatBool true).toArray⟩ : ByteArray) = ⟨#[116, 114, 117, 101]⟩ := by decide +kernel
theorem fb_false : (⟨(Lib.formatBool false).toArray⟩ : ByteArray) = ⟨#[102, 97, 108, 115, 101]⟩ := by decide +kernel
/-- What the program's plainText gives. -/
def plainB (kind num : Int) (s : ByteArray) : ByteArray :=
 if kind = 1 then ⟨(Lib.itoa num).toArray⟩ else if kind = 2 then (if num = 1 then ⟨#[116, 114, 117, 101]⟩ else ⟨#[102, 97, 108, 115, 101]⟩) else s
set_option maxRecDepth 100000 in
set_option maxHeartbeats 4000000 in
theorem plainText_any (kind num : Int) (s : ByteArray) (w : World) (h0 : -9223372036854775808 <= num) (h1 : num <= 9223372036854775807) (ht : Pow w) :
 Calls Tryz.prog 196 #[.agg #[.int .i64 kind, .int .i64 num, .string s]] w fun e w' => e = .returned (.string (plainB kind num s)) /\ Below w.heap.size w w' := by
 have HX := h_ (And.intro h0 h1); clear h0 h1
 have HW : Hid (Below w.heap.size w (w.alloc (.cells #[.int .i64 kind, .int .i64 num, .string s] 147))) := (Below.refl _ _).alloc (Nat.le_refl _) _
 by_cases k1 : kind = 1
 . subst k1
   go_enter Tryz.func196, Tryz.ntmps196
   go_wp2_with fail
   refine (decimal_any num _ (u_ HX).1 (u_ HX).2 (ht.mono (u_ HW))).mono ?_
   rintro e w2 ⟨rfl, hb2⟩
   replace HW := mT HW hb2; clear hb2
   go_wp2
   go_ret
   exact ⟨ret_str (by simp [plainB]), u_ HW⟩
 . by_cases k2 : kind = 2
   . subst k2
     by_cases n1 : num = 1
     . subst n1
       go_enter Tryz.func196, Tryz.ntmps196
       go_wp2_with fail
       refine (Tryz.strconv_FormatBool true _).mono ?_
       rintro e w2 ⟨rfl, rfl⟩
       rw [fb_true]
       go_wp2
       go_ret
       exact ⟨ret_str (by simp [plainB]), u_ HW⟩
     . have hf : (num == 1) = false := by simpa using n1
       go_enter Tryz.func196, Tryz.ntmps196
       go_wp2_with fail
       refine (Tryz.strconv_FormatBool false _).mono ?_
       rintro e w2 ⟨rfl, rfl⟩
       rw [fb_false]
       go_wp2
       go_ret
       exact ⟨ret_str (by simp [plainB, n1]), u_ HW⟩
   . go_enter Tryz.func196, Tryz.ntmps196
     go_wp2
     go_ret
     exact ⟨ret_str (by simp [plainB, k1, k2]), u_ HW⟩
end Go.Proofs.YtalgidagiojbpaaGreatDoor
/- Values as they are shown: the model and the program. -/
namespace Go.Proofs.YtalgidagiojbpaaGreatDoor
open Go Go.RowKit
set_option maxRecDepth 100000 in
set_option maxHeartbeats 4000000 in
theorem specShow_any (kind num : Int) (s : ByteArray) (w : World) (hs : s.size <= 9223372036854775807) (h0 : -9223372036854775808 <= num) (h1 : num <= 9223372036854775807) :
 Calls Tryz.prog 138 #[.agg #[.int .i64 kind, .int .i64 num, .string s]] w fun e w' => e = .returned (.string (showB kind num s)) /\ Below w.heap.size w w' := by
 have HX := h_ (And.intro h0 h1); clear h0 h1
 have H0 := h_ (Blk.new w 147 #[.int .i64 kind, .int .i64 num, .string s])
 have HW : Hid (Below w.heap.size w (w.alloc (.cells #[.int .i64 kind, .int .i64 num, .string s] 147))) := (Below.refl _ _).alloc (Nat.le_refl _) _
 go_enter Tryz.func138, Tryz.ntmps138
 go_wp2_with fail
 refine (specValidV_any kind num s _ hs).mono ?_
 rintro e w1 ⟨rfl, hb1⟩
 replace H0 := mB H0 hb1; replace HW := mT HW hb1; clear hb1
 obtain ⟨z0, z1, z2⟩ := three (u_ H0)
 cases hok : okVal kind num s
 . go_wp2
   go_ret
   exact ⟨ret_str (by simp [showB, hok]), u_ HW⟩
 . rcases kinds kind with rfl | rfl | rfl | rfl | rfl | ⟨k0, k1, k2, k3, k4⟩
   . go_wp2
     go_ret
     exact ⟨ret_str (by simp [showB, hok]), u_ HW⟩
   . go_wp2_with fail
     refine (l2Decimal_any num _ (u_ HX).1 (u_ HX).2).mono ?_
     rintro e w2 ⟨rfl, hb2⟩
     replace HW := mT HW hb2; clear hb2
     go_wp2
     go_ret
     exact ⟨ret_str (by simp [showB, hok]), u_ HW⟩
   . by_cases n1 : num = 1
     all_goals
      go_wp2
      go_ret
      exact ⟨ret_str (by first | (subst n1; simp [showB, hok]; done) | (simp [showB, hok, n1])), u_ HW⟩
   . have hsz : s.size <= 1000 := by simp [okVal] at hok; exact (okText_iff.1 hok.2).1
     go_wp2
     go_ret
     exact ⟨ret_str (by simp [showB, hok]), u_ HW⟩
   . go_wp2_with fail
     refine (l2Decimal_any num _ (u_ HX).1 (u_ HX).2).mono ?_
     rintro e w2 ⟨rfl, hb2⟩
     replace HW := mT HW hb2; clear hb2
     have hl := itoa_size num (u_ HX).1 (u_ HX).2
     obtain ⟨S, hS⟩ : ∃ S : ByteArray, S = ⟨(Lib.itoa num).toArray⟩ := ⟨_, rfl⟩
     rw [<- hS] at hl ⊢
     have HS := h_ hS; clear hS
     go_wp2
     go_ret
     exact ⟨ret_str (by have := u_ HS; simp [showB, hok, this]), u_ HW⟩
   . simp [okVal, k0, k1, k2, k3, k4] at hok
set_option maxRecDepth 100000 in
set_option maxHeartbeats 4000000 in
theorem implShow_any (kind num : Int) (s : ByteArray) (w : World) (hs : s.size <= 9223372036854775807) (h0 : -9223372036854775808 <= num) (h1 : num <= 9223372036854775807) (ht : Pow w) :
 Calls Tryz.prog 179 #[.agg #[.int .i64 kind, .int .i64 num, .string s]] w fun e w' => e = .returned (.string (showB kind num s)) /\ Below w.heap.size w w' := by
 have HX := h_ (And.intro h0 h1); clear h0 h1
 have H0 := h_ (Blk.new w 147 #[.int .i64 kind, .int .i64 num, .string s])
 have HW : Hid (Below w.heap.size w (w.alloc (.cells #[.int .i64 kind, .int .i64 num, .string s] 147))) := (Below.refl _ _).alloc (Nat.le_refl _) _
 go_enter Tryz.func179, Tryz.ntmps179
 go_wp2_with fail
 refine (implValidV_any kind num s _ hs).mono ?_
 rintro e w1 ⟨rfl, hb1⟩
 replace H0 := mB H0 hb1; replace HW := mT HW hb1; clear hb1
 obtain ⟨z0, z1, z2⟩ := three (u_ H0)
 have HT := h_ (ht.mono (u_ HW))
 cases hok : okVal kind num s
 . go_wp2
   go_ret
   exact ⟨ret_str (by simp [showB, hok]), u_ HW⟩
 . rcases kinds kind with rfl | rfl | rfl | rfl | rfl | ⟨k0, k1, k2, k3, k4⟩
   . go_wp2
     go_ret
     exact ⟨ret_str (by simp [showB, hok]), u_ HW⟩
   . go_wp2_with fail
     refine (plainText_any 1 num s _ (u_ HX).1 (u_ HX).2 (u_ HT)).mono ?_
     rintro e w2 ⟨rfl, hb2⟩
     replace HW := mT HW hb2; clear hb2
     go_wp2
     go_ret
     exact ⟨ret_str (by simp [showB, plainB, hok]), u_ HW⟩
   . go_wp2_with fail
     refine (plainText_any 2 num s _ (u_ HX).1 (u_ HX).2 (u_ HT)).mono ?_
     rintro e w2 ⟨rfl, hb2⟩
     replace HW := mT HW hb2; clear hb2
     go_wp2
     go_ret
     exact ⟨ret_str (by simp [showB, plainB, hok]), u_ HW⟩
   . have hsz : s.size <= 1000 := by simp [okVal] at hok; exact (okText_iff.1 hok.2).1
     go_wp2
     go_ret
     exact ⟨ret_str (by simp [showB, hok]), u_ HW⟩
   . go_wp2_with fail
     refine (decimal_any num _ (u_ HX).1 (u_ HX).2 (u_ HT)).mono ?_
     rintro e w2 ⟨rfl, hb2⟩
     replace HW := mT HW hb2; clear hb2
     have hl := itoa_size num (u_ HX).1 (u_ HX).2
     obtain ⟨S, hS⟩ : ∃ S : ByteArray, S = ⟨(Lib.itoa num).toArray⟩ := ⟨_, rfl⟩
     rw [<- hS] at hl ⊢
     have HS := h_ hS; clear hS
     go_wp2
     go_ret
     exact ⟨ret_str (by have := u_ HS; simp [showB, hok, this]), u_ HW⟩
   . simp [okVal, k0, k1, k2, k3, k4] at hok
end Go.Proofs.YtalgidagiojbpaaGreatDoor
