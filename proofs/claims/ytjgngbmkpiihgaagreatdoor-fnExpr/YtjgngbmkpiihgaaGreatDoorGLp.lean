import Derived.Scope
import Derived.WalkMore
import Derived.Test.YtjgngbmkpiihgaaGreatDoorGLx
import Derived.Test.YtjgngbmkpiihgaaGreatDoorGNa
import Derived.Test.YtjgngbmkpiihgaaGreatDoorGIE
import Derived.Test.YtjgngbmkpiihgaaGreatDoorShelf
import Derived.Test.YtjgngbmkpiihgaaGreatDoorGTb
import Derived.Test.YtjgngbmkpiihgaaGreatDoorZLawRV
import Derived.Test.YtjgngbmkpiihgaaGreatDoorGNd
import Derived.Test.YtjgngbmkpiihgaaGreatDoorGFm
/- A scope in which the run jumps between several labels. -/
namespace Go.Proofs.YtjgngbmkpiihgaaGreatDoor
open Go

def JmpM (J : Nat → Act → World → Prop) (Q : Exit → Act → World → Prop) : Exit → Act → World → Prop
  | .goto l, a, w => J l a w
  | e, a, w => Q e a w
theorem scope_many {P : Program} {a : Act} {w : World} {Q : Exit → Act → World → Prop} {c : Code} (J : Nat → Act → World → Prop) (μ : Nat → Act → World → Nat)
    (first : c.wp P (JmpM J Q) a w)
    (pass : ∀ l a w, J l a w → ∃ rest, findLabel c l = some rest ∧ rest.wp P (JmpM (fun l' a' w' => J l' a' w' ∧ μ l' a' w' < μ l a w) Q) a w) : (Code.scope c).wp P Q a w := by
  intro b k cs
  have key : ∀ n l a w, μ l a w = n → J l a w → ∃ rest, findLabel c l = some rest ∧ ∃ e a' w', Q e a' w' ∧ Arrives P (lone (b.at a (.code rest :: .inScope c :: k)) cs w) b k cs e a' w' := by
    intro n
    induction n using Nat.strongRecOn with
    | _ n ih =>
      intro l a w hn hJ
      obtain ⟨rest, hr, hp⟩ := pass l a w hJ
      refine ⟨rest, hr, ?_⟩
      obtain ⟨e, a₁, w₁, hq, harr⟩ := hp b (.inScope c :: k) cs
      cases e with
      | normal => exact ⟨.normal, a₁, w₁, hq, Steps.trans harr (.one step_inScope)⟩
      | exit id => exact ⟨.exit id, a₁, w₁, hq, fun k' hk => harr k' (by simp [exitTo, hk])⟩
      | goto l' =>
        obtain ⟨hJ', hlt⟩ := hq
        obtain ⟨rest', hr', e₂, a₂, w₂, hq₂, harr₂⟩ := ih _ (by omega) l' a₁ w₁ rfl hJ'
        exact ⟨e₂, a₂, w₂, hq₂, .of_steps (harr _ (by simp [gotoIn, hr'])) harr₂⟩
      | ret => exact ⟨_, a₁, w₁, hq, harr⟩
      | panic ch => exact ⟨_, a₁, w₁, hq, harr⟩
      | outgrown => exact ⟨_, a₁, w₁, hq, harr⟩
  obtain ⟨e, a₁, w₁, hq, harr⟩ := first b (.inScope c :: k) cs
  cases e with
  | normal => exact ⟨.normal, a₁, w₁, hq, .head step_scope (Steps.trans harr (.one step_inScope))⟩
  | exit id => exact ⟨.exit id, a₁, w₁, hq, fun k' hk => .head step_scope (harr k' (by simp [exitTo, hk]))⟩
  | goto l' =>
    obtain ⟨rest, hr, e₂, a₂, w₂, hq₂, harr₂⟩ := key _ l' a₁ w₁ rfl hq
    exact ⟨e₂, a₂, w₂, hq₂, .of_steps (.head step_scope (harr _ (by simp [gotoIn, hr]))) harr₂⟩
  | ret => exact ⟨_, a₁, w₁, hq, .of_steps (.one step_scope) harr⟩
  | panic ch => exact ⟨_, a₁, w₁, hq, .of_steps (.one step_scope) harr⟩
  | outgrown => exact ⟨_, a₁, w₁, hq, .of_steps (.one step_scope) harr⟩
end Go.Proofs.YtjgngbmkpiihgaaGreatDoor

/- The program cuts a text into tokens: one token. -/
namespace Go.Proofs.YtjgngbmkpiihgaaGreatDoor
open Go Go.RowKit

set_option maxRecDepth 100000 in
theorem byteAt_any (s : ByteArray) (i : Nat) (w : World) (hi : i ≤ s.size) : Calls Tryz.prog 95 #[.string s, .int .i64 (i : Nat)] w fun e w' => e = .returned (.int .u8 (bt s i : Nat)) ∧ w' = w := by
  by_cases h : i < s.size
  · have hne : ((i : Int) == (s.size : Int)) = false := beq_eq_false_iff_ne.2 (by omega)
    have hlt : (i : Int) < (s.size : Int) := by omega
    rw [bt_lt h]
    go_enter Tryz.func95, Tryz.ntmps95
    go_wp2_with fail
    go_ret
    exact ⟨rfl, rfl⟩
  · obtain rfl : i = s.size := by omega
    have hne : ((s.size : Int) == (s.size : Int)) = true := by simp
    rw [bt_ge h]
    go_enter Tryz.func95, Tryz.ntmps95
    go_wp2_with fail
    go_ret
    exact ⟨rfl, rfl⟩
theorem plain_sym : ∀ b : Fin 256, decide (0 ≤ Lib.indexByte [40, 41, 44, 59, 43, 45, 42, 47, 37, 38, 61] ((b.val : Nat) : Int).toNat.toUInt8) = symB b.val := by decide +kernel
set_option maxRecDepth 100000 in
theorem isPlainSymbol_any (b : Nat) (hb : b < 256) (w : World) : Calls Tryz.prog 93 #[.int .u8 (b : Nat)] w fun e w' => e = .returned (.bool (symB b)) ∧ w' = w := by
  have hp := plain_sym ⟨b, hb⟩
  simp only at hp
  have H := hide (Tryz.strings_IndexByte ⟨#[40, 41, 44, 59, 43, 45, 42, 47, 37, 38, 61]⟩ (b : Nat) w)
  rw [show (⟨#[40, 41, 44, 59, 43, 45, 42, 47, 37, 38, 61]⟩ : ByteArray).data.toList = [40, 41, 44, 59, 43, 45, 42, 47, 37, 38, 61] from rfl] at H
  generalize Lib.indexByte [40, 41, 44, 59, 43, 45, 42, 47, 37, 38, 61] ((b : Nat) : Int).toNat.toUInt8 = r at *
  have HP := hide hp
  clear hp
  go_enter Tryz.func93, Tryz.ntmps93
  go_wp2_with fail
  refine (unhide H).mono ?_
  rintro e w1 ⟨rfl, rfl⟩
  go_wp2_with fail
  go_ret
  exact ⟨ret_bool (unhide HP), rfl⟩
theorem bt_byte (s : ByteArray) (i : Nat) : bt s i < 256 := by
  unfold bt
  split
  · exact UInt8.toNat_lt _
  · omega
theorem runN_zero {p : Nat → Bool} {s : ByteArray} {k : Nat} (h : p (bt s k) = false) : runN p s k = 0 := by
  unfold runN
  by_cases hk : k < s.size
  · rw [bt_lt hk] at h
    have e : s.data.toList.drop k = s[k] :: s.data.toList.drop (k + 1) := List.drop_eq_getElem_cons (l := s.data.toList) (i := k) (by rw [Array.length_toList]; exact hk)
    rw [e, List.takeWhile_cons_of_neg (by simpa using h)]
    rfl
  · rw [List.drop_of_length_le (by rw [Array.length_toList]; exact Nat.le_of_not_lt hk)]
    rfl
theorem bt_in {p : Nat → Bool} (h0 : p 0 = false) {s : ByteArray} {k : Nat} (h : p (bt s k) = true) : k < s.size := Decidable.byContradiction fun hc => by rw [bt_ge hc, h0] at h; cases h
/-- A frame of tokenEnd whose place is p. -/
def FrE (s : ByteArray) (i p : Nat) (a : Act) : Prop := ∃ u6 u7 u8 u9 u10 u11 u12 u13 u14 u15 u16 u17 u18 u19 u20 u21 u22 u23 u24 u25 u26 u27 u28 u29 u30 u31 u32 u33 u34 u35 u36 u37 u38 u39 u40 u41 u42 u43 u44 u45 u46 u47 u48 u49 u50 u51 u52 u53 u54 u55 u56 u57 u58 u59 u60 u61 u62 u63 u64 u65, a = { tmps := #[.string s, .int .i64 (i : Nat), undef, undef, .int .i64 0, .int .i64 (p : Nat), u6, u7, u8, u9, u10, u11, u12, u13, u14, u15, u16, u17, u18, u19, u20, u21, u22, u23, u24, u25, u26, u27, u28, u29, u30, u31, u32, u33, u34, u35, u36, u37, u38, u39, u40, u41, u42, u43, u44, u45, u46, u47, u48, u49, u50, u51, u52, u53, u54, u55, u56, u57, u58, u59, u60, u61, u62, u63, u64, u65], defers := [] }
theorem FrE.mk {s : ByteArray} {i p : Nat} {u6 u7 u8 u9 u10 u11 u12 u13 u14 u15 u16 u17 u18 u19 u20 u21 u22 u23 u24 u25 u26 u27 u28 u29 u30 u31 u32 u33 u34 u35 u36 u37 u38 u39 u40 u41 u42 u43 u44 u45 u46 u47 u48 u49 u50 u51 u52 u53 u54 u55 u56 u57 u58 u59 u60 u61 u62 u63 u64 u65 : Value} : FrE s i p { tmps := #[.string s, .int .i64 (i : Nat), undef, undef, .int .i64 0, .int .i64 (p : Nat), u6, u7, u8, u9, u10, u11, u12, u13, u14, u15, u16, u17, u18, u19, u20, u21, u22, u23, u24, u25, u26, u27, u28, u29, u30, u31, u32, u33, u34, u35, u36, u37, u38, u39, u40, u41, u42, u43, u44, u45, u46, u47, u48, u49, u50, u51, u52, u53, u54, u55, u56, u57, u58, u59, u60, u61, u62, u63, u64, u65], defers := [] } := ⟨u6, u7, u8, u9, u10, u11, u12, u13, u14, u15, u16, u17, u18, u19, u20, u21, u22, u23, u24, u25, u26, u27, u28, u29, u30, u31, u32, u33, u34, u35, u36, u37, u38, u39, u40, u41, u42, u43, u44, u45, u46, u47, u48, u49, u50, u51, u52, u53, u54, u55, u56, u57, u58, u59, u60, u61, u62, u63, u64, u65, rfl⟩
/-- What holds at a label. -/
def LbE (s : ByteArray) (i l p : Nat) : Prop :=
  (l = 0 ∧ i + 1 ≤ p ∧ p ≤ s.size ∧ tokE s i = p + runN nameB s p) ∨ (l = 1 ∧ i + 1 ≤ p ∧ p ≤ s.size ∧ tokE s i = p + runN digitB s p) ∨
  (l = 2 ∧ i + 1 ≤ p ∧ p ≤ s.size ∧ tokE s i = (if bt s (p + runN tb s p) = 34 then p + runN tb s p + 1 else i)) ∨
  (l = 3 ∧ p = i + 1 ∧ tokE s i = if bt s (i + 1) = 62 ∨ bt s (i + 1) = 61 then i + 2 else i + 1) ∨ (l = 4 ∧ p ≤ s.size ∧ tokE s i = p)
def muE (s : ByteArray) (l : Nat) (a : Act) : Nat := if l = 4 then 0 else if l = 3 then 1 else 2 + (s.size - (intOf (a.tmps.getD 5 undef)).toNat)
set_option maxRecDepth 100000 in
set_option maxHeartbeats 4000000 in
theorem tokenEnd_any (s : ByteArray) (i : Nat) (w : World) (hs : s.size ≤ 1048576) (hi : i < s.size) : Calls Tryz.prog 57 #[.string s, .int .i64 (i : Nat)] w fun e w' => e = .returned (.int .i64 (tokE s i : Nat)) ∧ w' = w := by
  obtain ⟨c, hc⟩ : ∃ c, bt s i = c := ⟨_, rfl⟩
  have hck : (s[i]).toNat = c := by rw [← hc, bt_lt hi]
  have hcb : c < 256 := by rw [← hc]; exact bt_byte s i
  obtain ⟨p1, hp1⟩ : ∃ p, i + 1 = p := ⟨_, rfl⟩
  have hp1' := i_one hp1
  have hi' : (i : Int) < (s.size : Int) := by omega
  have hpb : p1 ≤ s.size := by omega
  have HE : Hid (tokE s i = if small c = true then p1 + runN nameB s p1 else if digitB c = true then p1 + runN digitB s p1 else if c = 34 then (if bt s (p1 + runN tb s p1) = 34 then p1 + runN tb s p1 + 1 else i) else if c = 60 then (if bt s (i + 1) = 62 ∨ bt s (i + 1) = 61 then i + 2 else i + 1) else if symB c = true then p1 else i) := hide (by unfold tokE; rw [hc, hp1])
  have HP1 := hide hp1
  clear hc hp1
  go_enter Tryz.func57, Tryz.ntmps57
  go_wp2_with fail
  refine scope_many (fun l a w' => w' = w ∧ ∃ p, LbE s i l p ∧ FrE s i p a) (fun l a _ => muE s l a) ?first ?pass
  case first =>
    cases h1 : small c
    case true =>
      have HL : Hid (LbE s i 0 p1) := hide (.inl ⟨rfl, by have := unhide HP1; omega, hpb, by rw [unhide HE, if_pos h1]⟩)
      go_wp2_with (go_at_call 91; refine (isLetter_any _ _).mono ?_; rintro e w' ⟨rfl, rfl⟩; rw [h1])
      go_step3
      exact (⟨rfl, p1, unhide HL, FrE.mk⟩ : _ = _ ∧ ∃ p, LbE s i 0 p ∧ FrE s i p _)
    cases h2 : digitB c
    case true =>
      have HL : Hid (LbE s i 1 p1) := hide (.inr (.inl ⟨rfl, by have := unhide HP1; omega, hpb, by rw [unhide HE, h1, if_neg (by decide), if_pos h2]⟩))
      go_wp2_with (first | (go_at_call 91; refine (isLetter_any _ _).mono ?_; rintro e w' ⟨rfl, rfl⟩; rw [h1]) | (go_at_call 92; refine (isDigit_any _ _).mono ?_; rintro e w' ⟨rfl, rfl⟩; rw [h2]))
      go_step3
      exact (⟨rfl, p1, unhide HL, FrE.mk⟩ : _ = _ ∧ ∃ p, LbE s i 1 p ∧ FrE s i p _)
    rw [h1, h2, if_neg (by decide), if_neg (by decide)] at HE
    by_cases h3 : c = 34
    case pos =>
      have h3' : ((c : Int) == 34) = true := by simp [h3]
      have HL : Hid (LbE s i 2 p1) := hide (.inr (.inr (.inl ⟨rfl, by have := unhide HP1; omega, hpb, by rw [unhide HE, if_pos h3]⟩)))
      clear h3
      go_wp2_with (first | (go_at_call 91; refine (isLetter_any _ _).mono ?_; rintro e w' ⟨rfl, rfl⟩; rw [h1]) | (go_at_call 92; refine (isDigit_any _ _).mono ?_; rintro e w' ⟨rfl, rfl⟩; rw [h2]))
      go_step3
      exact (⟨rfl, p1, unhide HL, FrE.mk⟩ : _ = _ ∧ ∃ p, LbE s i 2 p ∧ FrE s i p _)
    have h3' : ((c : Int) == 34) = false := beq_eq_false_iff_ne.2 (by omega)
    rw [if_neg h3] at HE
    by_cases h4 : c = 60
    case pos =>
      have h4' : ((c : Int) == 60) = true := by simp [h4]
      have HL : Hid (LbE s i 3 p1) := hide (.inr (.inr (.inr (.inl ⟨rfl, (unhide HP1).symm, by rw [unhide HE, if_pos h4]⟩))))
      clear h3 h4
      go_wp2_with (first | (go_at_call 91; refine (isLetter_any _ _).mono ?_; rintro e w' ⟨rfl, rfl⟩; rw [h1]) | (go_at_call 92; refine (isDigit_any _ _).mono ?_; rintro e w' ⟨rfl, rfl⟩; rw [h2]))
      go_step3
      exact (⟨rfl, p1, unhide HL, FrE.mk⟩ : _ = _ ∧ ∃ p, LbE s i 3 p ∧ FrE s i p _)
    have h4' : ((c : Int) == 60) = false := beq_eq_false_iff_ne.2 (by omega)
    rw [if_neg h4] at HE
    cases h5 : symB c
    case true =>
      have HL : Hid (LbE s i 4 p1) := hide (.inr (.inr (.inr (.inr ⟨rfl, hpb, by rw [unhide HE, if_pos h5]⟩))))
      clear h3 h4
      go_wp2_with (first | (go_at_call 91; refine (isLetter_any _ _).mono ?_; rintro e w' ⟨rfl, rfl⟩; rw [h1]) | (go_at_call 92; refine (isDigit_any _ _).mono ?_; rintro e w' ⟨rfl, rfl⟩; rw [h2]) | (go_at_call 93; refine (isPlainSymbol_any _ hcb _).mono ?_; rintro e w' ⟨rfl, rfl⟩; rw [h5]))
      go_step3
      exact (⟨rfl, p1, unhide HL, FrE.mk⟩ : _ = _ ∧ ∃ p, LbE s i 4 p ∧ FrE s i p _)
    have HL : Hid (tokE s i = i) := hide (by rw [unhide HE, h5, if_neg (by decide)])
    clear h3 h4
    go_wp2_with (first | (go_at_call 91; refine (isLetter_any _ _).mono ?_; rintro e w' ⟨rfl, rfl⟩; rw [h1]) | (go_at_call 92; refine (isDigit_any _ _).mono ?_; rintro e w' ⟨rfl, rfl⟩; rw [h2]) | (go_at_call 93; refine (isPlainSymbol_any _ hcb _).mono ?_; rintro e w' ⟨rfl, rfl⟩; rw [h5]))
    simp only [JmpM]
    go_ret
    exact ⟨ret_int (by rw [unhide HL]), rfl⟩
  case pass =>
    rintro l a w' ⟨rfl, p, hl, hf⟩
    obtain ⟨u6, u7, u8, u9, u10, u11, u12, u13, u14, u15, u16, u17, u18, u19, u20, u21, u22, u23, u24, u25, u26, u27, u28, u29, u30, u31, u32, u33, u34, u35, u36, u37, u38, u39, u40, u41, u42, u43, u44, u45, u46, u47, u48, u49, u50, u51, u52, u53, u54, u55, u56, u57, u58, u59, u60, u61, u62, u63, u64, u65, rfl⟩ := hf
    rcases hl with ⟨rfl, k1, k2, k3⟩ | ⟨rfl, k1, k2, k3⟩ | ⟨rfl, k1, k2, k3⟩ | ⟨rfl, rfl, k3⟩ | ⟨rfl, k2, k3⟩
    · refine ⟨_, rfl, ?_⟩
      have HK := hide k3
      clear k3
      cases hb : nameB (bt s p)
      · have HL : Hid (LbE s i 4 p) := hide (.inr (.inr (.inr (.inr ⟨rfl, k2, by rw [unhide HK, runN_zero hb]; rfl⟩))))
        go_wp2_with (first | (go_at_call 95; refine (byteAt_any _ _ _ k2).mono ?_; rintro e w' ⟨rfl, rfl⟩) | (go_at_call 94; refine (isNameByte_any _ _).mono ?_; rintro e w' ⟨rfl, rfl⟩; rw [hb]))
        go_step3
        refine (⟨⟨rfl, p, unhide HL, FrE.mk⟩, ?_⟩ : (_ = _ ∧ ∃ p, LbE s i 4 p ∧ FrE s i p _) ∧ muE s 4 _ < muE s 0 _)
        unfold muE; simp; omega
      · have hlt : p < s.size := bt_in (p := nameB) (by decide) hb
        obtain ⟨q, hq⟩ : ∃ q, p + 1 = q := ⟨_, rfl⟩
        have hq' := i_one hq
        have hqb : q ≤ s.size := by omega
        have hpq : p < q := by omega
        have HL : Hid (LbE s i 0 q) := hide (.inl ⟨rfl, by omega, by omega, by rw [unhide HK, runN_succ hlt hb, ← hq]; omega⟩)
        clear hq
        go_wp2_with (first | (go_at_call 95; refine (byteAt_any _ _ _ k2).mono ?_; rintro e w' ⟨rfl, rfl⟩) | (go_at_call 94; refine (isNameByte_any _ _).mono ?_; rintro e w' ⟨rfl, rfl⟩; rw [hb]))
        go_step3
        refine (⟨⟨rfl, q, unhide HL, FrE.mk⟩, ?_⟩ : (_ = _ ∧ ∃ p, LbE s i 0 p ∧ FrE s i p _) ∧ muE s 0 _ < muE s 0 _)
        unfold muE; simp [intOf]; omega
    · refine ⟨_, rfl, ?_⟩
      have HK := hide k3
      clear k3
      cases hb : digitB (bt s p)
      · have HL : Hid (LbE s i 4 p) := hide (.inr (.inr (.inr (.inr ⟨rfl, k2, by rw [unhide HK, runN_zero hb]; rfl⟩))))
        go_wp2_with (first | (go_at_call 95; refine (byteAt_any _ _ _ k2).mono ?_; rintro e w' ⟨rfl, rfl⟩) | (go_at_call 92; refine (isDigit_any _ _).mono ?_; rintro e w' ⟨rfl, rfl⟩; rw [hb]))
        go_step3
        refine (⟨⟨rfl, p, unhide HL, FrE.mk⟩, ?_⟩ : (_ = _ ∧ ∃ p, LbE s i 4 p ∧ FrE s i p _) ∧ muE s 4 _ < muE s 1 _)
        unfold muE; simp; omega
      · have hlt : p < s.size := bt_in (p := digitB) (by decide) hb
        obtain ⟨q, hq⟩ : ∃ q, p + 1 = q := ⟨_, rfl⟩
        have hq' := i_one hq
        have hqb : q ≤ s.size := by omega
        have hpq : p < q := by omega
        have HL : Hid (LbE s i 1 q) := hide (.inr (.inl ⟨rfl, by omega, by omega, by rw [unhide HK, runN_succ hlt hb, ← hq]; omega⟩))
        clear hq
        go_wp2_with (first | (go_at_call 95; refine (byteAt_any _ _ _ k2).mono ?_; rintro e w' ⟨rfl, rfl⟩) | (go_at_call 92; refine (isDigit_any _ _).mono ?_; rintro e w' ⟨rfl, rfl⟩; rw [hb]))
        go_step3
        refine (⟨⟨rfl, q, unhide HL, FrE.mk⟩, ?_⟩ : (_ = _ ∧ ∃ p, LbE s i 1 p ∧ FrE s i p _) ∧ muE s 1 _ < muE s 1 _)
        unfold muE; simp [intOf]; omega
    · refine ⟨_, rfl, ?_⟩
      have HK := hide k3
      clear k3
      obtain ⟨q, hq⟩ : ∃ q, p + 1 = q := ⟨_, rfl⟩
      have hq' := i_one hq
      have hpq : p < q := by omega
      cases hb : tb (bt s p)
      · have hr0 := runN_zero (s := s) (k := p) hb
        rw [hr0, Nat.add_zero] at HK
        obtain ⟨x, hx⟩ : ∃ x, bt s p = x := ⟨_, rfl⟩
        rw [hx] at HK hb
        by_cases h34 : x = 34
        · have h34' : ((x : Int) != 34) = false := by simp [h34]
          have hlt : p < s.size := Decidable.byContradiction fun hc => by rw [bt_ge hc] at hx; omega
          have hqb : q ≤ s.size := by omega
          have HL : Hid (LbE s i 4 q) := hide (.inr (.inr (.inr (.inr ⟨rfl, hqb, by rw [unhide HK, if_pos h34, hq]⟩))))
          clear hq h34 hr0
          go_wp2_with (first | (go_at_call 95; refine (byteAt_any _ _ _ k2).mono ?_; rintro e w' ⟨rfl, rfl⟩; rw [hx]) | (go_at_call 96; refine (isTextByte_any _ _).mono ?_; rintro e w' ⟨rfl, rfl⟩; rw [hb]))
          go_step3
          refine (⟨⟨rfl, q, unhide HL, FrE.mk⟩, ?_⟩ : (_ = _ ∧ ∃ p, LbE s i 4 p ∧ FrE s i p _) ∧ muE s 4 _ < muE s 2 _)
          unfold muE; simp; omega
        · have h34' : ((x : Int) != 34) = true := by simp; omega
          have HL : Hid (tokE s i = i) := hide (by rw [unhide HK, if_neg h34])
          clear hq h34 hr0
          go_wp2_with (first | (go_at_call 95; refine (byteAt_any _ _ _ k2).mono ?_; rintro e w' ⟨rfl, rfl⟩; rw [hx]) | (go_at_call 96; refine (isTextByte_any _ _).mono ?_; rintro e w' ⟨rfl, rfl⟩; rw [hb]))
          simp only [JmpM]
          go_ret
          exact ⟨ret_int (by rw [unhide HL]), rfl⟩
      · have hlt : p < s.size := bt_in (p := tb) (by decide) hb
        have hqb : q ≤ s.size := by omega
        have HL : Hid (LbE s i 2 q) := hide (.inr (.inr (.inl ⟨rfl, by omega, by omega, by rw [unhide HK, runN_succ hlt hb, ← hq, show p + (1 + runN tb s (p + 1)) = p + 1 + runN tb s (p + 1) by omega]⟩)))
        clear hq
        go_wp2_with (first | (go_at_call 95; refine (byteAt_any _ _ _ k2).mono ?_; rintro e w' ⟨rfl, rfl⟩) | (go_at_call 96; refine (isTextByte_any _ _).mono ?_; rintro e w' ⟨rfl, rfl⟩; rw [hb]))
        go_step3
        refine (⟨⟨rfl, q, unhide HL, FrE.mk⟩, ?_⟩ : (_ = _ ∧ ∃ p, LbE s i 2 p ∧ FrE s i p _) ∧ muE s 2 _ < muE s 2 _)
        unfold muE; simp [intOf]; omega
    · refine ⟨_, rfl, ?_⟩
      have HK := hide k3
      have k2 : i + 1 ≤ s.size := by omega
      obtain ⟨x, hx⟩ : ∃ x, bt s (i + 1) = x := ⟨_, rfl⟩
      rw [hx] at HK
      have HB := hide (fun w => byteAt_any s (i + 1) w k2)
      rw [hx] at HB
      obtain ⟨q, hq⟩ : ∃ q, i + 1 = q := ⟨_, rfl⟩
      obtain ⟨r, hr⟩ : ∃ r, q + 1 = r := ⟨_, rfl⟩
      have hr' := i_one hr
      have hrb : r ≤ 1048577 := by omega
      have HQ : Hid (i + 2 = r ∧ i + 1 = q) := hide (by omega)
      rw [hq] at HB
      rw [hq]
      clear k3 hx hq hr k2
      by_cases h62 : x = 62
      · have h62' : ((x : Int) == 62) = true := by simp [h62]
        have HL : Hid (tokE s i = r) := hide (by rw [unhide HK, if_pos (.inl h62)]; exact (unhide HQ).1)
        clear h62
        go_wp2_with fail
        refine (unhide HB _).mono ?_
        rintro e w1 ⟨rfl, rfl⟩
        go_wp2_with fail
        try go_step3
        go_wp2_with fail
        simp only [JmpM]
        go_ret
        exact ⟨ret_int (by rw [unhide HL]), rfl⟩
      · have h62' : ((x : Int) == 62) = false := beq_eq_false_iff_ne.2 (by omega)
        by_cases h61 : x = 61
        · have h61' : ((x : Int) == 61) = true := by simp [h61]
          have HL : Hid (tokE s i = r) := hide (by rw [unhide HK, if_pos (.inr h61)]; exact (unhide HQ).1)
          clear h62 h61
          go_wp2_with fail
          refine (unhide HB _).mono ?_
          rintro e w1 ⟨rfl, rfl⟩
          go_wp2_with fail
          try go_step3
          go_wp2_with fail
          simp only [JmpM]
          go_ret
          exact ⟨ret_int (by rw [unhide HL]), rfl⟩
        · have h61' : ((x : Int) == 61) = false := beq_eq_false_iff_ne.2 (by omega)
          have HL : Hid (tokE s i = q) := hide (by rw [unhide HK, if_neg (by omega)]; exact (unhide HQ).2)
          clear h62 h61
          go_wp2_with fail
          refine (unhide HB _).mono ?_
          rintro e w1 ⟨rfl, rfl⟩
          go_wp2_with fail
          try go_step3
          go_wp2_with fail
          simp only [JmpM]
          go_ret
          exact ⟨ret_int (by rw [unhide HL]), rfl⟩
    · refine ⟨_, rfl, ?_⟩
      have HL := hide k3
      clear k3
      go_wp2_with fail
      simp only [JmpM]
      go_ret
      exact ⟨ret_int (by rw [unhide HL]), rfl⟩
end Go.Proofs.YtjgngbmkpiihgaaGreatDoor

/- The program cuts a text into tokens. -/
namespace Go.Proofs.YtjgngbmkpiihgaaGreatDoor
open Go Go.RowKit

set_option maxRecDepth 100000 in
set_option maxHeartbeats 2000000 in
theorem keepsLimits_any (t : ByteArray) (w : World) (h0 : 0 < t.size) (hz : t.size ≤ 1048576) (hp : Pow w) (q1 : ErrV "strconv.ErrSyntax" w) (q2 : ErrV "strconv.ErrRange" w) : Calls Tryz.prog 58 #[.string t] w fun e w' => e = .returned (.bool (keepsB t)) ∧ Below w.heap.size w w' := by
  obtain ⟨kd, nm, tx, ok, hrv⟩ : ∃ kd nm tx ok, rv t = (kd, nm, tx, ok) := ⟨_, _, _, _, rfl⟩
  have HRd := hide (implRead_any t w hz hp q1 q2 kd nm tx ok hrv)
  obtain ⟨c, hc⟩ : ∃ c, bt t 0 = c := ⟨_, rfl⟩
  have hck : (t[0]).toNat = c := by rw [← hc, bt_lt h0]
  have HK : Hid (keepsB t = if small c = true then decide (t.size ≤ 16) else if digitB c = true ∨ c = 34 then ok else true) := hide (by unfold keepsB; rw [hc, hrv])
  have h0' : (0 : Int) < (t.size : Int) := by omega
  clear hp q1 q2 hrv hc
  have HZ := hide (Below.refl w.heap.size w)
  cases h1 : small c
  case true =>
    rw [h1, if_pos rfl] at HK
    go_enter Tryz.func58, Tryz.ntmps58
    go_wp2_with (go_at_call 91; refine (isLetter_any _ _).mono ?_; rintro e w' ⟨rfl, rfl⟩; rw [h1])
    go_ret
    exact ⟨ret_bool (by rw [unhide HK]; exact decide_eq_decide.2 (by omega)), unhide HZ⟩
  rw [h1, if_neg (by decide)] at HK
  cases h2 : digitB c
  case true =>
    rw [h2, if_pos (.inl rfl)] at HK
    go_enter Tryz.func58, Tryz.ntmps58
    go_wp2_with (first | (go_at_call 91; refine (isLetter_any _ _).mono ?_; rintro e w' ⟨rfl, rfl⟩; rw [h1]) | (go_at_call 92; refine (isDigit_any _ _).mono ?_; rintro e w' ⟨rfl, rfl⟩; rw [h2]))
    refine (unhide HRd).mono ?_
    rintro e W1 ⟨rfl, hb⟩
    have HB := hide (hb.alloc hb.size (.cells #[.int .i64 kd, .int .i64 nm, .string tx] 39))
    clear hb
    go_wp2_with fail
    go_ret
    exact ⟨ret_bool (unhide HK).symm, unhide HB⟩
  rw [h2] at HK
  by_cases h3 : c = 34
  case pos =>
    have h3' : ((c : Int) == 34) = true := by simp [h3]
    rw [if_pos (.inr h3)] at HK
    clear h3
    go_enter Tryz.func58, Tryz.ntmps58
    go_wp2_with (first | (go_at_call 91; refine (isLetter_any _ _).mono ?_; rintro e w' ⟨rfl, rfl⟩; rw [h1]) | (go_at_call 92; refine (isDigit_any _ _).mono ?_; rintro e w' ⟨rfl, rfl⟩; rw [h2]))
    refine (unhide HRd).mono ?_
    rintro e W1 ⟨rfl, hb⟩
    have HB := hide (hb.alloc hb.size (.cells #[.int .i64 kd, .int .i64 nm, .string tx] 39))
    clear hb
    go_wp2_with fail
    go_ret
    exact ⟨ret_bool (unhide HK).symm, unhide HB⟩
  have h3' : ((c : Int) == 34) = false := beq_eq_false_iff_ne.2 (by omega)
  rw [if_neg (fun h => by rcases h with h | h; cases h; exact h3 h)] at HK
  clear h3
  go_enter Tryz.func58, Tryz.ntmps58
  go_wp2_with (first | (go_at_call 91; refine (isLetter_any _ _).mono ?_; rintro e w' ⟨rfl, rfl⟩; rw [h1]) | (go_at_call 92; refine (isDigit_any _ _).mono ?_; rintro e w' ⟨rfl, rfl⟩; rw [h2]))
  go_ret
  exact ⟨ret_bool (unhide HK).symm, unhide HZ⟩
def OwnS (w : World) (base : Nat) (v : Value) (l : List ByteArray) : Prop := w.ownsRow base 9 1 v l.length (stV l)
theorem OwnS.keep {w w' : World} {base : Nat} {v : Value} {l : List ByteArray} (h : OwnS w base v l) (hb : Below w.heap.size w w') : OwnS w' base v l :=
  World.ownsRow.kept (row := none) h ⟨hb.os, hb.tape, hb.output, hb.size, fun k hk _ => hb.block k hk⟩ (Classical.em _)
theorem OwnS.strs {w : World} {base : Nat} {v : Value} {l : List ByteArray} (h : OwnS w base v l) : ∃ a c, v = .slice a l.length c ∧ l.length ≤ c ∧ Strs w a l := by
  rcases h.2 with ⟨e, h0⟩ | ⟨g, cap, cur, e, hg, hq, h4, h5, h6, h7⟩
  · exact ⟨.none, 0, by rw [e, h0], by omega, fun k hk => by omega⟩
  · have hb : Blk w g 9 cur.toList := by
      show w.heap[g]? = _
      rw [hq]
    refine ⟨some ⟨g, 0, .none⟩, cap, e, h4, fun k hk => ⟨g, 0, rfl, hb.lt, ?_⟩⟩
    have h8 : (cur.toList.take (l.length * 1))[k]? = some (.string l[k]) := by rw [h7]; simp [stV, hk]
    rw [List.getElem?_take_of_lt (by omega)] at h8
    rw [Nat.zero_add, hb.cell]; exact h8
/-- One text more. -/
theorem append_str {ops : Array Oper} {rest : List Oper} {o : Oper} {a : Act} {Q : Exit → Act → World → Prop} {w : World} (hgd : o.guard = .none) (s x : Operand)
    (ho : o.op = .call { callee := .builtin .append, args := #[s, x], argTypes := #[48, 48] }) {base : Nat} {v : Value} {l : List ByteArray} (hs : a.eval s = v) (hown : OwnS w base v l)
    {g : Nat} {t : ByteArray} (hx : a.eval x = .slice (some ⟨g, 0, .none⟩) 1 1) (hc : Blk w g 9 [.string t]) (hl : l.length + 1 ≤ 2097152) (hbase : base ≤ w.heap.size)
    (h : ∀ v' w', OwnS w' base v' (l ++ [t]) → Below base w w' → wpList Tryz.prog ops Q rest (a.put o.dst v') w') : wpList Tryz.prog ops Q (o :: rest) a w := by
  obtain ⟨i0, hi, hz0, hz1, hz2⟩ := info_parts info_str
  refine wpList_append_own w hgd s x 48 ho base 9 i0 _ 1 16 Tryz.underlying48 hi hz0 hz1 hz2 rfl (by omega) _ _ _ hs hown ⟨g, 0, .none⟩ 1 1 [.string t] hx rfl (fun j v hj => by rw [show (⟨g, 0, .none⟩ : Addr).add j = ⟨g, j, .none⟩ by simp [Addr.add]; try exact fun h => h.symm]; exact (hc.cell j).trans hj) (by simp [Value.oneCell']) (by unfold maxLen; omega) (by omega) hbase ?_
  intro v' W9 ho hgr _
  refine h v' W9 ?_ ((Below.refl base w).grown hgr hbase (fun q e => owns_block hown e))
  unfold OwnS
  rw [List.length_append, show stV (l ++ [t]) = stV l ++ [.string t] by simp [stV]]
  exact ho
/-- What scan answers. -/
def ScnA (s : ByteArray) (w : World) (base : Nat) (v : Value) (z : Int) : Prop := match lxF s s.size 0 [] with
  | .inl i => z = (i : Nat) ∧ v = .slice none 0 0
  | .inr ts => z = -1 ∧ OwnS w base v ts ∧ ts.length ≤ s.size ∧ ∀ t, t ∈ ts → VT t ∧ t.size ≤ s.size

set_option maxRecDepth 100000 in
set_option maxHeartbeats 8000000 in
theorem scan_any (s : ByteArray) (w : World) (hs : s.size ≤ 1048576) (hp : Pow w) (q1 : ErrV "strconv.ErrSyntax" w) (q2 : ErrV "strconv.ErrRange" w) :
    Calls Tryz.prog 32 #[.string s] w fun r w' => ∃ v z, r = .returned (.tuple #[v, .int .i64 z]) ∧ ScnA s w' w.heap.size v z ∧ Below w.heap.size w w' := by
  have HP := hide hp; have HQ1 := hide q1; have HQ2 := hide q2
  clear hp q1 q2
  go_enter Tryz.func32, Tryz.ntmps32
  go_wp2_with fail
  go_loopw [4, 5, 6] (fun v i _ wr => ∃ (k : Nat) (l : List (ByteArray × Nat)), i = .int .i64 k ∧ LxI s k l ∧ OwnS wr w.heap.size v (l.map (·.1)) ∧ Below w.heap.size w wr) (fun _ i _ _ => s.size - (intOf i).toNat)
  case atStart => exact ⟨0, [], rfl, ⟨Nat.zero_le _, Nat.zero_le _, LxAt.start s, fun t ht => by simp at ht⟩, ⟨rfl, .inl ⟨rfl, rfl⟩⟩, Below.refl _ _⟩
  case round =>
    obtain ⟨k, l, rfl, hi, ho, hb⟩ := hrel
    have HI := hide hi; have HO := hide ho; have HB := hide hb
    have HLn : Hid ((l.map (·.1)).length ≤ 1048576) := hide (by rw [List.length_map]; have := hi.hn; have := hi.hk; omega)
    have hps := (unhide HP).mono hb; have hq1 := (unhide HQ1).mono hb; have hq2 := (unhide HQ2).mono hb
    have HP2 := hide hps; have HQ3 := hide hq1; have HQ4 := hide hq2
    clear hi ho hb hps hq1 hq2
    by_cases hlt : k < s.size
    case neg =>
      have hlt' := i_nlt hlt
      have HX : Hid (ScnA s wr w.heap.size u4 (-1)) := hide (by
        have h := unhide HI
        unfold ScnA
        rw [h.at'.done (by omega)]
        exact ⟨rfl, unhide HO, by rw [List.length_map]; have := h.hn; have := h.hk; omega, h.ok⟩)
      go_wp2_with fail
      go_ret2
      exact ⟨_, _, rfl, unhide HX, unhide HB⟩
    have hlt' := i_lt hlt
    obtain ⟨c, hc⟩ : ∃ c, bt s k = c := ⟨_, rfl⟩
    have hck : (s[k]).toNat = c := by rw [← hc, bt_lt hlt]
    have HSk := hide ((unhide HI).skip hlt); have HNx := hide (fun t e => (unhide HI).next (t := t) (e := e) hlt)
    have HBd : Hid (wsB c = false → tk s k = none → ∀ w v, ScnA s w v (.slice none 0 0) (k : Nat)) := hide fun h1 h2 w v => by
      unfold ScnA
      rw [(unhide HI).at'.bad hlt (by rw [hc]; exact h1) h2]
      exact ⟨rfl, rfl⟩
    rw [hc] at HSk HNx
    have HTE := hide (tokenEnd_any s k wr hs hlt)
    have hte := tokE_le hlt
    clear hc
    obtain ⟨k1, hk1⟩ : ∃ k1, k + 1 = k1 := ⟨_, rfl⟩
    have hk1' := i_one hk1
    have hkk : k < k1 := by omega
    rw [hk1] at HSk
    by_cases h32 : c = 32
    · have h32' : ((c : Int) == 32) = true := by simp [h32]
      have HX := hide (unhide HSk (by subst h32; rfl))
      clear h32 hk1
      go_wp2_with fail
      go_roundw
      case rel => first | exact ⟨k1, l, rfl, unhide HX, unhide HO, unhide HB⟩ | ((repeat apply Exists.intro); exact ⟨⟨k1, l, rfl, unhide HX, unhide HO, unhide HB⟩, rfl⟩)
      case measure => simp [intOf]; exact Nat.sub_lt_sub_left hlt hkk
    have h32' : ((c : Int) == 32) = false := beq_eq_false_iff_ne.2 (by omega)
    by_cases h10 : c = 10
    · have h10' : ((c : Int) == 10) = true := by simp [h10]
      have HX := hide (unhide HSk (by subst h10; rfl))
      clear h32 h10 hk1
      go_wp2_with fail
      go_roundw
      case rel => first | exact ⟨k1, l, rfl, unhide HX, unhide HO, unhide HB⟩ | ((repeat apply Exists.intro); exact ⟨⟨k1, l, rfl, unhide HX, unhide HO, unhide HB⟩, rfl⟩)
      case measure => simp [intOf]; exact Nat.sub_lt_sub_left hlt hkk
    have h10' : ((c : Int) == 10) = false := beq_eq_false_iff_ne.2 (by omega)
    have hws : wsB c = false := by unfold wsB; simp; omega
    replace HNx := hide (fun t e => unhide HNx t e hws); replace HBd := hide (unhide HBd hws)
    clear HSk h32 h10 hws hk1 hk1' hkk
    obtain ⟨e, he⟩ : ∃ e, tokE s k = e := ⟨_, rfl⟩
    have HTk : Hid (tk s k = if e = k then none else if keepsB (s.extract k e) = true then some (s.extract k e, e) else none) := hide (by unfold tk; rw [he])
    rw [he] at HTE hte
    clear he
    by_cases hek : e = k
    · have hek' : ((e : Int) == (k : Int)) = true := by simp [hek]
      have HBad := hide (unhide HBd (by rw [unhide HTk, if_pos hek]))
      clear hek
      go_wp2_with (go_at_call 57; refine (unhide HTE).mono ?_; rintro e w' ⟨rfl, rfl⟩)
      go_ret2
      exact ⟨_, _, rfl, unhide HBad _ _, unhide HB⟩
    have hek' : ((e : Int) == (k : Int)) = false := beq_eq_false_iff_ne.2 (by omega)
    rw [if_neg hek] at HTk
    have hke : k < e := by omega
    have hsub := run_sub s (show k ≤ e by omega) hte.2
    have htz0 : 0 < (s.extract k e).size := by simp; omega
    have htz : (s.extract k e).size ≤ 1048576 := by simp; omega
    obtain ⟨t, ht⟩ : ∃ t, s.extract k e = t := ⟨_, rfl⟩
    rw [ht] at HTk hsub htz htz0
    have HKp := hide (keepsLimits_any t wr htz0 htz (unhide HP2) (unhide HQ3) (unhide HQ4))
    clear ht hek hte
    cases hkp : keepsB t
    · rw [hkp, if_neg (by decide)] at HTk
      rw [hkp] at HKp
      have HBad := hide (unhide HBd (unhide HTk))
      clear hkp
      go_wp2_with (go_at_call 57; refine (unhide HTE).mono ?_; rintro e w' ⟨rfl, rfl⟩)
      refine (unhide HKp).mono ?_
      rintro e9 W2 ⟨rfl, hb⟩
      replace HB := hide ((unhide HB).trans (hb.mono (unhide HB).size))
      clear hb
      go_wp2_with fail
      go_ret2
      exact ⟨_, _, rfl, unhide HBad _ _, unhide HB⟩
    · rw [hkp, if_pos rfl] at HTk
      rw [hkp] at HKp
      have HX := hide (unhide HNx t e (unhide HTk))
      clear hkp HBd HNx
      go_wp2_with (go_at_call 57; refine (unhide HTE).mono ?_; rintro e w' ⟨rfl, rfl⟩)
      refine (unhide HKp).mono ?_
      rintro e9 W2 ⟨rfl, hb⟩
      replace HB := hide ((unhide HB).trans (hb.mono (unhide HB).size)); replace HO := hide ((unhide HO).keep hb)
      clear hb
      have HN : Hid (Blk _ _ 9 [.string t]) := hide (Blk.new W2 9 #[.string t])
      have HS := hide ((Below.refl W2.heap.size W2).alloc (Nat.le_refl _) (.cells #[.string t] 9))
      go_wp2_with (at_builtin; refine append_str (t := t) rfl _ _ rfl rfl ((unhide HO).keep (unhide HS)) rfl (unhide HN) (by have := unhide HLn; omega) (Nat.le_trans (unhide HB).size (unhide HS).size) ?_)
      intro v' W9 ho hb9
      have HO9 : Hid (OwnS W9 w.heap.size v' ((l ++ [(t, k)]).map (·.1))) := hide (by rw [List.map_append]; exact ho)
      have HB9 := hide ((unhide HB).trans (((unhide HS).mono (unhide HB).size).trans hb9))
      clear ho hb9
      go_wp2_with fail
      go_roundw
      case rel => first | exact ⟨e, _, rfl, unhide HX, unhide HO9, unhide HB9⟩ | ((repeat apply Exists.intro); exact ⟨⟨e, _, rfl, unhide HX, unhide HO9, unhide HB9⟩, rfl⟩)
      case measure => simp [intOf]; exact Nat.sub_lt_sub_left hlt hke
end Go.Proofs.YtjgngbmkpiihgaaGreatDoor
