import Derived.Test.YtnmpkdmflijhpaaDoorD3
import Derived.Test.YtnmpkdmflijhpaaDoorDich
import Derived.Test.YtnmpkdmflijhpaaDoorJoinI
import Derived.Test.YtnmpkdmflijhpaaDoorCardC
/- FnLattice: arguments that are too long, and orders that are no lattice. -/
namespace Go.Proofs.YtnmpkdmflijhpaaDoor
open Go Go.RowKit

set_option maxRecDepth 100000 in
theorem lawLat_long (a b : Option Addr) (n1 n2 c1 c2 : Nat) (w : World) (h1 : n1 ≤ 9223372036854775807) (h2 : n2 ≤ 9223372036854775807) (hl : 1048576 < n1 ∨ 1048576 < n2) :
    Calls Tryd.prog 6 #[.slice a n1 c1, .slice b n2 c2] w fun e w' => e = .returned (.bool true) ∧ Below w.heap.size w w' := by
  by_cases h : 1048576 < n1
  · have h' : (1048576 : Int) < n1 := by omega
    go_enter Tryd.func6, Tryd.ntmps6
    go_wp2
    go_ret
    exact ⟨rfl, Below.refl _ _⟩
  · have h' : ¬ (1048576 : Int) < n1 := by omega
    have h'' : (1048576 : Int) < n2 := by omega
    go_enter Tryd.func6, Tryd.ntmps6
    go_wp2
    go_ret
    exact ⟨rfl, Below.refl _ _⟩

def pf (l : List (Int × Int)) (k : Nat) : Int := (l.getD k (0, 0)).1
def pg (l : List (Int × Int)) (k : Nat) : Int := (l.getD k (0, 0)).2

set_option maxRecDepth 100000 in
set_option maxHeartbeats 4000000 in
theorem lawLat_zero (a b : Option Addr) (n1 n2 c1 c2 : Nat) (f : Nat → Nat) (w : World) (h1 : n1 ≤ 1048576) (h2 : n2 ≤ 1048576) (ha : Byts w a n1 f) (ht : Tab w) (N : Int) (l : List (Int × Int))
    (hD : ∀ (w : World) (a : Option Addr) (c : Nat), Byts w a n1 f → Calls Tryd.prog 26 #[.slice a n1 c] w fun e w' => OrdOut w N l e w') (code : Int) (h0 : code ≠ 0) (hS : SpecZ N l.length (pf l) (pg l) code) (hI : ImplZ N l.length (pf l) (pg l) code) :
    Calls Tryd.prog 6 #[.slice a n1 c1, .slice b n2 c2] w fun e w' => e = .returned (.bool true) ∧ Below w.heap.size w w' := by
  have d1 : ¬ (1048576 : Int) < n1 := by omega
  have d2 : ¬ (1048576 : Int) < n2 := by omega
  have HA := hide ha; have HT := hide ht; have HD := hide hD; have HS := hide hS; have HI := hide hI
  clear ha ht hD hS hI
  go_enter Tryd.func6, Tryd.ntmps6
  go_wp2_with fail
  refine (unhide HD w a c1 (unhide HA)).mono ?_
  rintro e w1 ⟨v, rfl, hO, hb1⟩
  obtain ⟨X, cap, rfl, hP⟩ := pairs_of_owns hO
  have HP := hide hP; have HB1 := hide hb1
  clear hO hP hb1
  go_wp2_with fail
  refine (unhide HI w1 X cap (unhide HP) ((unhide HT).mono (unhide HB1))).mono ?_
  rintro e w2 ⟨rfl, hb2⟩
  have HB2 := hide ((unhide HB1).trans (hb2.mono (unhide HB1).size))
  clear hb2 HP
  unfold zeroL
  obtain ⟨w3, hw3⟩ : ∃ w3, w2.alloc (.cells #[.int .i64 0, .slice none 0 0, .slice none 0 0, .slice none 0 0, .int .i64 0, .int .i64 0] 29) = w3 := ⟨_, rfl⟩
  have b5 : Blk w3 w2.heap.size 29 [.int .i64 0, .slice none 0 0, .slice none 0 0, .slice none 0 0, .int .i64 0, .int .i64 0] := by rw [← hw3]; exact Blk.new w2 29 #[.int .i64 0, .slice none 0 0, .slice none 0 0, .slice none 0 0, .int .i64 0, .int .i64 0]
  have hb3 : Below w.heap.size w w3 := by rw [← hw3]; exact (unhide HB2).alloc (unhide HB2).size _
  obtain ⟨X5, hX5⟩ : ∃ X5, w2.heap.size = X5 := ⟨_, rfl⟩
  rw [hX5] at b5
  have H5 := hide b5; have HB3 := hide hb3; have HW3 := hide hw3; have HX5 := hide hX5
  clear b5 hb3 hw3 hX5
  go_wp2_with fail
  rw [unhide HW3, unhide HX5]
  clear HW3 HX5
  refine (unhide HD w3 a c1 ((unhide HA).mono (unhide HB3))).mono ?_
  rintro e w4 ⟨v, rfl, hO, hb4⟩
  obtain ⟨X', cap', rfl, hP⟩ := pairs_of_owns hO
  have HP := hide hP
  have HB4 := hide ((unhide HB3).trans (hb4.mono (unhide HB3).size)); have H5' := hide ((unhide H5).mono hb4 (unhide H5).lt)
  clear hO hP hb4 H5
  go_wp2_with fail
  refine (unhide HS w4 X' cap' (unhide HP)).mono ?_
  rintro e w5 ⟨rfl, hb5⟩
  have HB5 := hide ((unhide HB4).trans (hb5.mono (unhide HB4).size))
  have b5 := ((unhide H5').mono hb5 (unhide H5').lt)
  have HB6 : ∀ o, Hid (Below w.heap.size w (w5.alloc o)) := fun o => hide ((unhide HB5).alloc (unhide HB5).size _)
  have z0 : ∀ o, (w5.alloc o).cell? ⟨X5, 0, none⟩ = some (.int .i64 0) := fun o => (b5.alloc o).cell 0
  have z1 : ∀ o, (w5.alloc o).cell? ⟨X5, 1, none⟩ = some (.slice none 0 0) := fun o => (b5.alloc o).cell 1
  have z2 : ∀ o, (w5.alloc o).cell? ⟨X5, 2, none⟩ = some (.slice none 0 0) := fun o => (b5.alloc o).cell 2
  have z3 : ∀ o, (w5.alloc o).cell? ⟨X5, 3, none⟩ = some (.slice none 0 0) := fun o => (b5.alloc o).cell 3
  have z4 : ∀ o, (w5.alloc o).cell? ⟨X5, 4, none⟩ = some (.int .i64 0) := fun o => (b5.alloc o).cell 4
  have z5 : ∀ o, (w5.alloc o).cell? ⟨X5, 5, none⟩ = some (.int .i64 0) := fun o => (b5.alloc o).cell 5
  unfold zeroL
  clear hb5 HP b5 H5'
  go_wp2_with fail
  refine (implValid_any 0 0 0 none none none 0 0 0 0 0 0 (fun _ => false) (fun _ => 0) (fun _ => 0) _ (fun k hk => absurd hk (Nat.not_lt_zero _)) (fun k hk => absurd hk (Nat.not_lt_zero _)) (fun k hk => absurd hk (Nat.not_lt_zero _)) ((unhide HT).mono (unhide (HB6 _))) false ⟨(fun h => by cases h), fun h => absurd h zero_not_valid⟩).mono ?_
  rintro e w7 ⟨rfl, hb7⟩
  have HB7 := hide ((unhide (HB6 _)).trans (hb7.mono (unhide (HB6 _)).size))
  clear hb7
  go_wp2
  go_ret
  exact ⟨rfl, unhide HB7⟩
end Go.Proofs.YtnmpkdmflijhpaaDoor

/- FnLattice: orders that are lattices. -/
namespace Go.Proofs.YtnmpkdmflijhpaaDoor
open Go Go.RowKit

structure LF (w W : World) (b : Option Addr) (n2 : Nat) (g : Nat → Nat) (N bot top : Int) (s : Nat) (F : Nat → Bool) (J M : Nat → Int) (X5 X7 G1 G2 G3 : Nat) (a1 a2 a3 : Option Addr) (c1 c2 c3 : Nat) : Prop where
  B5 : Blk W X5 29 [.int .i64 N, .slice (some ⟨G1, 0, none⟩) s s, .slice (some ⟨G2, 0, none⟩) s s, .slice (some ⟨G3, 0, none⟩) s s, .int .i64 bot, .int .i64 top]
  B7 : Blk W X7 29 [.int .i64 N, .slice a1 s c1, .slice a2 s c2, .slice a3 s c3, .int .i64 bot, .int .i64 top]
  k1 : Bools W (some ⟨G1, 0, none⟩) s F
  k2 : Ints W (some ⟨G2, 0, none⟩) s J
  k3 : Ints W (some ⟨G3, 0, none⟩) s M
  q1 : Bools W a1 s F
  byt : Byts W b n2 g
  tab : Tab W
  low : Below w.heap.size w W
theorem LF.mono {w W W' : World} {b : Option Addr} {n2 : Nat} {g : Nat → Nat} {N bot top : Int} {s : Nat} {F : Nat → Bool} {J M : Nat → Int} {X5 X7 G1 G2 G3 : Nat} {a1 a2 a3 : Option Addr} {c1 c2 c3 : Nat} (h : LF w W b n2 g N bot top s F J M X5 X7 G1 G2 G3 a1 a2 a3 c1 c2 c3) (k : Below W.heap.size W W') : LF w W' b n2 g N bot top s F J M X5 X7 G1 G2 G3 a1 a2 a3 c1 c2 c3 :=
  ⟨h.B5.mono k h.B5.lt, h.B7.mono k h.B7.lt, h.k1.mono k, h.k2.mono k, h.k3.mono k, h.q1.mono k, h.byt.mono k, h.tab.mono k, h.low.trans (k.mono h.low.size)⟩

section
variable {F : Nat → Bool} {n c : Nat}
theorem all_getD {P : Nat → Prop} (l : List Nat) : (∀ i, i < l.length → P (l.getD i 0)) ↔ ∀ u ∈ l, P u := by
  constructor
  · intro h u hu
    obtain ⟨k, hk, rfl⟩ := List.mem_iff_getElem.1 hu
    have := h k hk
    rwa [List.getD_eq_getElem?_getD, List.getElem?_eq_getElem hk] at this
  · intro h i hi
    rw [List.getD_eq_getElem?_getD, List.getElem?_eq_getElem hi]
    exact h _ (List.getElem_mem hi)
theorem lub_same {l l' : List Nat} (h : Lub F n l.length (fun i => l.getD i 0) c) (hm : ∀ u, u ∈ l ↔ u ∈ l') : Lub F n l'.length (fun i => l'.getD i 0) c := by
  refine ⟨h.1, ?_, fun d hd hall => h.2.2 d hd ?_⟩
  · refine (all_getD (P := fun u => F (u * n + c) = true) l').2 fun u hu => ?_
    exact (all_getD (P := fun u => F (u * n + c) = true) l).1 h.2.1 u ((hm u).2 hu)
  · refine (all_getD (P := fun u => F (u * n + d) = true) l).2 fun u hu => ?_
    exact (all_getD (P := fun u => F (u * n + d) = true) l').1 hall u ((hm u).1 hu)
end
def xsL (y : Nat → Nat) (k : Nat) : List Nat := (List.range k).map y
theorem xs_succ (y : Nat → Nat) (k : Nat) : xsL y (k + 1) = xsL y k ++ [y k] := by simp [xsL, List.range_succ]
theorem xs_len (y : Nat → Nat) (k : Nat) : (xsL y k).length = k := by simp [xsL]
theorem xs_at (y : Nat → Nat) {k i : Nat} (h : i < k) : (xsL y k).getD i 0 = y i := by simp [xsL, List.getD_eq_getElem?_getD, h]
def twL (y : Nat → Nat) (m k : Nat) : List Nat := (List.range k).flatMap fun i => [y (m - 1 - i), y (m - 1 - i)]
theorem tw_succ (y : Nat → Nat) (m k : Nat) : twL y m (k + 1) = twL y m k ++ [y (m - 1 - k)] ++ [y (m - 1 - k)] := by simp [twL, List.range_succ]
theorem tw_len (y : Nat → Nat) (m : Nat) : ∀ k, (twL y m k).length = k * 2
  | 0 => rfl
  | k + 1 => by rw [tw_succ]; simp [tw_len y m k]; omega
theorem tw_mem (y : Nat → Nat) (m u : Nat) : u ∈ xsL y m ↔ u ∈ twL y m m := by
  simp only [xsL, twL, List.mem_map, List.mem_flatMap, List.mem_range, List.mem_cons, List.not_mem_nil, or_false, or_self]
  constructor
  · rintro ⟨i, hi, rfl⟩
    exact ⟨m - 1 - i, by omega, by congr 1; omega⟩
  · rintro ⟨i, hi, rfl⟩
    exact ⟨m - 1 - i, by omega, rfl⟩
theorem ui_snoc (l : List Nat) (u : Nat) : ui (l ++ [u]) = ui l ++ [.int .i64 (u : Int)] := by simp [ui]

def abP (F : Nat → Bool) (y : Nat → Nat) (n q d : Nat) : Bool := (List.range q).all fun i => F (y i * n + d)
theorem abP_succ (F : Nat → Bool) (y : Nat → Nat) (n q d : Nat) : abP F y n (q + 1) d = (abP F y n q d && F (y q * n + d)) := by simp [abP, List.range_succ]
theorem abP_lub {F : Nat → Bool} {y : Nat → Nat} {n k c d : Nat} (h : Lub F n k y c) (hd : d < n) (ht : ∀ i, i < k → F (y i * n + c) = true → F (c * n + d) = true → F (y i * n + d) = true) : abP F y n k d = F (c * n + d) := by
  rw [Bool.eq_iff_iff]
  simp only [abP, List.all_eq_true, List.mem_range]
  exact ⟨fun hall => h.2.2 d hd hall, fun hc i hi => ht i hi (h.2.1 i hi) hc⟩

set_option maxRecDepth 100000 in
set_option maxHeartbeats 16000000 in
theorem lawLat_full1 (a b : Option Addr) (n1 n2 c1 c2 : Nat) (f g : Nat → Nat) (w : World) (h1 : n1 ≤ 1048576) (h2 : n2 ≤ 1048576) (hcase : n2 ≤ 20) (ha : Byts w a n1 f) (hb : Byts w b n2 g) (ht : Tab w) (N : Int) (l : List (Int × Int))
    (hD : ∀ (w : World) (a : Option Addr) (c : Nat), Byts w a n1 f → Calls Tryd.prog 26 #[.slice a n1 c] w fun e w' => OrdOut w N l e w') (s : Nat) (F : Nat → Bool) (J M : Nat → Int) (bot top : Int) (hV : Valid N s s s F J M bot top)
    (hS : SpecF N l.length (pf l) (pg l) s F J M bot top) (hI : ImplF N l.length (pf l) (pg l) s F J M bot top) :
    Calls Tryd.prog 6 #[.slice a n1 c1, .slice b n2 c2] w fun e w' => e = .returned (.bool true) ∧ Below w.heap.size w w' := by
  have d1 : ¬ (1048576 : Int) < n1 := by omega
  have d2 : ¬ (1048576 : Int) < n2 := by omega
  obtain ⟨n, bt, tp, hv⟩ := hV
  obtain rfl := hv.hN
  obtain rfl := hv.hb
  obtain rfl := hv.l1
  have hn1 := hv.h1; have hn32 := hv.h32
  have HVP := hide hv
  clear hv
  have hnn : ((n * n : Nat) : Int) = (n : Int) * n := by simp
  have hnb : n * n ≤ 1024 := Nat.mul_le_mul hn32 hn32
  obtain ⟨s, hs⟩ : ∃ s, n * n = s := ⟨_, rfl⟩
  rw [hs] at HVP hS hI hnn hnb
  have HSS := hide hs
  clear hs
  have HNN := hide hnn
  clear hnn
  have HA := hide ha; have HT := hide ht; have HD := hide hD; have HS := hide hS; have HI := hide hI; have HBy := hide hb
  clear ha ht hD hS hI hb
  go_enter Tryd.func6, Tryd.ntmps6
  go_wp2_with fail
  refine (unhide HD w a c1 (unhide HA)).mono ?_
  rintro e w1 ⟨v, rfl, hO, hb1⟩
  obtain ⟨X, cap, rfl, hP⟩ := pairs_of_owns hO
  have HP := hide hP; have HB1 := hide hb1
  clear hO hP hb1
  go_wp2_with fail
  refine (unhide HI w1 X cap (unhide HP) ((unhide HT).mono (unhide HB1))).mono ?_
  rintro e w2 ⟨G1, G2, G3, rfl, g1, g2, g3, -, -, -, -, -, -, hb2⟩
  have HB2 := hide ((unhide HB1).trans (hb2.mono (unhide HB1).size))
  have HG := hide (And.intro g1 (And.intro g2 g3))
  clear hb2 HP g1 g2 g3
  obtain ⟨w3, hw3⟩ : ∃ w3, w2.alloc (.cells #[.int .i64 n, .slice (some ⟨G1, 0, none⟩) s s, .slice (some ⟨G2, 0, none⟩) s s, .slice (some ⟨G3, 0, none⟩) s s, .int .i64 bt, .int .i64 top] 29) = w3 := ⟨_, rfl⟩
  have b5 : Blk w3 w2.heap.size 29 [.int .i64 n, .slice (some ⟨G1, 0, none⟩) s s, .slice (some ⟨G2, 0, none⟩) s s, .slice (some ⟨G3, 0, none⟩) s s, .int .i64 bt, .int .i64 top] := by rw [← hw3]; exact Blk.new w2 29 #[.int .i64 n, .slice (some ⟨G1, 0, none⟩) s s, .slice (some ⟨G2, 0, none⟩) s s, .slice (some ⟨G3, 0, none⟩) s s, .int .i64 bt, .int .i64 top]
  have hb3 : Below w.heap.size w w3 := by rw [← hw3]; exact (unhide HB2).alloc (unhide HB2).size _
  have hb23 : Below w2.heap.size w2 w3 := by rw [← hw3]; exact (Below.refl _ _).alloc (Nat.le_refl _) _
  have HG3 := hide (And.intro ((unhide HG).1.mono hb23 (unhide HG).1.lt) (And.intro ((unhide HG).2.1.mono hb23 (unhide HG).2.1.lt) ((unhide HG).2.2.mono hb23 (unhide HG).2.2.lt)))
  obtain ⟨X5, hX5⟩ : ∃ X5, w2.heap.size = X5 := ⟨_, rfl⟩
  rw [hX5] at b5
  have H5 := hide b5; have HB3 := hide hb3; have HW3 := hide hw3; have HX5 := hide hX5
  clear b5 hb3 hw3 hX5 HG hb23
  go_wp2_with fail
  rw [unhide HW3, unhide HX5]
  clear HW3 HX5
  refine (unhide HD w3 a c1 ((unhide HA).mono (unhide HB3))).mono ?_
  rintro e w4 ⟨v, rfl, hO, hb4⟩
  obtain ⟨X', cap', rfl, hP⟩ := pairs_of_owns hO
  have HP := hide hP
  have HB4 := hide ((unhide HB3).trans (hb4.mono (unhide HB3).size)); have H54 := hide ((unhide H5).mono hb4 (unhide H5).lt)
  have HG4 := hide (And.intro ((unhide HG3).1.mono hb4 (unhide HG3).1.lt) (And.intro ((unhide HG3).2.1.mono hb4 (unhide HG3).2.1.lt) ((unhide HG3).2.2.mono hb4 (unhide HG3).2.2.lt)))
  clear hO hP hb4 H5 HG3
  go_wp2_with fail
  refine (unhide HS w4 X' cap' (unhide HP)).mono ?_
  rintro e w5 ⟨a1, a2, a3, l1, l2, l3, rfl, s1, s2, s3, hb5⟩
  obtain ⟨W6, hw6⟩ : ∃ W6, w5.alloc (.cells #[.int .i64 n, .slice a1 s l1, .slice a2 s l2, .slice a3 s l3, .int .i64 bt, .int .i64 top] 29) = W6 := ⟨_, rfl⟩
  obtain ⟨X7, hX7⟩ : ∃ X7, w5.heap.size = X7 := ⟨_, rfl⟩
  have hb6 : Below w5.heap.size w5 W6 := by rw [← hw6]; exact (Below.refl _ _).alloc (Nat.le_refl _) _
  have hb46 : Below w4.heap.size w4 W6 := hb5.trans (hb6.mono hb5.size)
  have hlow : Below w.heap.size w W6 := (unhide HB4).trans (hb46.mono (unhide HB4).size)
  have hLF : LF w W6 b n2 g n bt top s F J M X5 X7 G1 G2 G3 a1 a2 a3 l1 l2 l3 :=
    ⟨(unhide H54).mono hb46 (unhide H54).lt, by rw [← hX7, ← hw6]; exact Blk.new w5 29 #[.int .i64 n, .slice a1 s l1, .slice a2 s l2, .slice a3 s l3, .int .i64 bt, .int .i64 top], (Blk.bools (unhide HG4).1).mono hb46, (Blk.ints (unhide HG4).2.1).mono hb46, (Blk.ints (unhide HG4).2.2).mono hb46, s1.mono hb6, (unhide HBy).mono hlow, (unhide HT).mono hlow, hlow⟩
  obtain ⟨⟨x0, x1, x2, x3, x4, x5⟩, -⟩ := six hLF.B5
  obtain ⟨⟨y0, y1, y2, y3, y4, y5⟩, -⟩ := six hLF.B7
  have HLF := hide hLF
  have hnn' : (n : Int) * n = s := (unhide HNN).symm
  clear hb5 hb6 hb46 hlow hLF s1 s2 s3 HP HG4 H54 HB4 HB3 HB2 HB1
  go_wp2_with fail
  try rw [hw6]
  try rw [hX7]
  clear hw6 hX7
  refine (implValid_any n bt top _ _ _ s s s _ _ _ F J M W6 (unhide HLF).k1 (unhide HLF).k2 (unhide HLF).k3 (unhide HLF).tab true ⟨fun _ => ⟨n, bt, tp, unhide HVP⟩, fun _ => rfl⟩).mono ?_
  rintro e w7 ⟨rfl, hb7⟩
  have HLF7 := hide ((unhide HLF).mono hb7)
  clear hb7 HLF x0 x1 x2 x3 x4 x5 y0 y1 y2 y3 y4 y5
  obtain ⟨m, hm⟩ : ∃ m, min n2 20 = m := ⟨_, rfl⟩
  have hm1 : m ≤ n2 := by omega
  have hm2 : m ≤ 20 := by omega
  have HM := hide hm
  clear hm
  obtain ⟨y, hy⟩ : ∃ y : Nat → Nat, ∀ i, y i = g i % n := ⟨fun i => g i % n, fun _ => rfl⟩
  have hyn : ∀ i, y i < n := fun i => by rw [hy]; exact Nat.mod_lt _ hn1
  have HYI := hide hy; have HYN := hide hyn
  clear hy hyn
  have HO0 := hide (owns_none w7 3)
  have HB0 : Hid (Below w7.heap.size w7 (w7.alloc (.cells #[] 3))) := hide ((Below.refl _ _).alloc (Nat.le_refl _) _)
  go_wp2
  go_loopw [10, 11] (fun v i wr => ∃ k : Nat, k ≤ m ∧ i = .int .i64 k ∧ wr.ownsRow w7.heap.size 3 1 v k (ui (xsL y k)) ∧ Below w7.heap.size w7 wr) (fun _ i _ => m - (intOf i).toNat)
  case atStart => exact ⟨0, Nat.zero_le _, rfl, unhide HO0, unhide HB0⟩
  case round =>
    obtain ⟨k, hk, rfl, hO, hb⟩ := hrel
    have HO := hide hO; have HBr := hide hb
    have HLr := hide ((unhide HLF7).mono hb)
    clear hO hb HO0 HB0
    by_cases hlt : k < m
    · have e1 : (k : Int) < n2 := by omega
      have e2 : (k : Int) < 20 := by omega
      obtain ⟨hg, bb, off, rfl, -, cg⟩ := (unhide HLr).byt k (by omega)
      have HXS := hide (xs_succ y k)
      have hyk := unhide HYN k
      have r1 : ((g k : Nat) : Int).tmod n = y k := by rw [unhide HYI k]; rfl
      have r2 : ((g k : Nat) : Int) % n = y k := by rw [unhide HYI k]; rfl
      obtain ⟨gk, hgk⟩ : ∃ gk, g k = gk := ⟨_, rfl⟩
      obtain ⟨yk, hyk'⟩ : ∃ yk, y k = yk := ⟨_, rfl⟩
      rw [hgk] at hg cg r1 r2
      rw [hyk'] at r1 r2 HXS hyk
      clear hgk hyk'
      have hn0 : ¬ (n : Int) = 0 := by omega
      have hn0' : ¬ n = 0 := by omega
      obtain ⟨i0, hi, hz0, hz1, hz2⟩ := info_parts info_int
      go_wp2_with (at_builtin; refine wpList_append_own_at _ rfl _ _ 27 rfl w7.heap.size 3 i0 _ 1 8 Tryd.underlying27 hi hz0 hz1 hz2 rfl (by omega) _ _ _ rfl ((unhide HO).alloc _) ⟨wr.heap.size, 0, none⟩ 1 1 [.int .i64 (yk : Int)] rfl rfl (cell_one_new wr _ _) (by simp [Value.oneCell']) (by unfold maxLen; omega) (by omega) (by have := (unhide HBr).size; simp; omega) ?_)
      intro v' w8 ho' hgr' _ _
      have hB8 := ((unhide HBr).alloc (unhide HBr).size (.cells #[.int .i64 (yk : Int)] 3)).grown hgr' (by have := (unhide HBr).size; simp; omega) (fun q' e => owns_block (unhide HO) e)
      have HO8 : Hid (w8.ownsRow w7.heap.size 3 1 v' (k + 1) (ui (xsL y (k + 1)))) := hide (by rw [unhide HXS, ui_snoc]; exact ho')
      have HB8 := hide hB8
      clear ho' hgr' hB8 hi hz0 hz1 hz2 HO HBr HLr cg r1 r2
      go_wp2
      go_roundw
      case rel => exact ⟨k + 1, by omega, by go_num, unhide HO8, unhide HB8⟩
      case measure => simp [intOf]; omega
    · obtain rfl : k = m := by omega
      have e3 : ¬ (k : Int) < n2 := by have := unhide HM; omega
      obtain ⟨xa, xcap, rfl, hI⟩ := ints_of_owns (unhide HO)
      have HIx : Hid (Ints wr xa k fun i => (y i : Int)) := hide fun i hi => by
        have := hI i hi
        dsimp only at this ⊢
        rwa [xs_at y hi] at this
      obtain ⟨⟨x0, x1, x2, x3, x4, x5⟩, -⟩ := six (unhide HLr).B5
      clear hI
      go_wp2_with fail
      refine (implJoin_any n bt top _ _ _ xa s s s k _ _ _ xcap F J M (fun i => (y i : Int)) wr (by omega) (unhide HLr).k1 (unhide HLr).k2 (unhide HLr).k3 (unhide HIx) (unhide HLr).tab true ⟨fun _ => ⟨n, bt, tp, unhide HVP⟩, fun _ => rfl⟩).mono ?_
      rintro e w8 ⟨r, rfl, hR, hb8⟩
      have hC : ∃ c : Nat, r = c ∧ Lub F n k y c := by
        rcases hR with ⟨hbad, -⟩ | ⟨-, -, n', y', c, e1, e2, e3, e4⟩
        · exfalso
          rcases hbad with h | h | ⟨i, hi, h⟩
          · cases h
          · omega
          · have := unhide HYN i; dsimp only at h; omega
        · obtain rfl : n = n' := by omega
          exact ⟨c, e4, e3.congr fun i hi => by have := (e2 i hi).1; dsimp only at this; omega⟩
      obtain ⟨c, rfl, hL⟩ := hC
      have hc := hL.1
      have HL := hide hL
      have HL8 := hide ((unhide HLr).mono hb8)
      have HI8 := hide ((unhide HIx).mono hb8)
      clear hR hL hb8 x0 x1 x2 x3 x4 x5 HO HBr HLr HIx HLF7
      obtain ⟨⟨z0, z1, z2, z3, z4, z5⟩, -⟩ := six (unhide HL8).B7
      have g1 : decide (n ≤ c) = false := by simp; omega
      have g2 : decide ((c : Int) < 0) = false := by simp
      go_wp2
      go_loopw [13, 14, 15] (fun i _ _ wr => ∃ (d t : Nat), d ≤ n ∧ i = .int .i64 d ∧ wr = w8.drewN t) (fun i _ _ _ => n - (intOf i).toNat)
      case atStart => exact ⟨0, 0, Nat.zero_le _, rfl, rfl⟩
      case round =>
        obtain ⟨d, t, hd, rfl, rfl⟩ := hrel
        by_cases hdn : d < n
        · have hdn' : (d : Int) < n := by omega
          go_wp2
          go_loopw [14, 15] (fun v i wr' => ∃ (q t : Nat), q ≤ k ∧ i = .int .i64 q ∧ v = .bool (abP F y n q d) ∧ wr' = w8.drewN t) (fun _ i _ => k - (intOf i).toNat)
          case atStart => exact ⟨0, t, Nat.zero_le _, rfl, rfl, rfl⟩
          case round =>
            obtain ⟨q, t', hq, rfl, rfl, rfl⟩ := hrel
            by_cases hlq : q < k
            · have hlq' : (q : Int) < k := by omega
              obtain ⟨bx, ox, rfl, -, cx⟩ := unhide HI8 q hlq
              have hyq := unhide HYN q
              have HAB := hide (abP_succ F y n q d)
              dsimp only at cx
              obtain ⟨yq, hyq'⟩ : ∃ yq, y q = yq := ⟨_, rfl⟩
              rw [hyq'] at cx hyq HAB
              clear hyq'
              have i1 := idx_lt hyq hdn
              have i2 := sq_le hn32
              obtain ⟨bf, of, rfl, -, cf⟩ := (unhide HL8).q1 (yq * n + d) (by have := unhide HSS; omega)
              have i3 : 0 ≤ (yq : Int) * n := by rw [← Int.natCast_mul]; omega
              have i4 : (yq : Int) * n + d < s := by rw [← Int.natCast_mul]; have := unhide HSS; omega
              have i5 : (yq : Int) * n ≤ 1024 := by rw [← Int.natCast_mul]; omega
              clear i1 i2
              cases hF : F (yq * n + d)
              · rw [hF] at cf HAB
                rw [Bool.and_false] at HAB
                go_wp2
                go_quiet (fail)
                go_wp2
                go_roundw
                case rel => exact ⟨q + 1, _, by omega, by go_num, by rw [unhide HAB], rfl⟩
                case measure => simp [intOf]; omega
              · rw [hF] at cf HAB
                rw [Bool.and_true] at HAB
                go_wp2
                go_quiet (fail)
                go_wp2
                go_roundw
                case rel => exact ⟨q + 1, _, by omega, by go_num, by rw [unhide HAB], rfl⟩
                case measure => simp [intOf]; omega
            · obtain rfl : q = k := by omega
              have hAB : abP F y n q d = F (c * n + d) := abP_lub (unhide HL) hdn fun i hi a b => (unhide HVP).trans (unhide HYN i) hc hdn a b
              rw [hAB]
              have i1 := idx_lt hc hdn
              have i2 := sq_le hn32
              obtain ⟨bf, of, rfl, -, cf⟩ := (unhide HL8).q1 (c * n + d) (by have := unhide HSS; omega)
              have i3 : 0 ≤ (c : Int) * n := by rw [← Int.natCast_mul]; omega
              have i4 : (c : Int) * n + d < s := by rw [← Int.natCast_mul]; have := unhide HSS; omega
              have i5 : (c : Int) * n ≤ 1024 := by rw [← Int.natCast_mul]; omega
              clear i1 i2 hAB
              obtain ⟨V, hV⟩ : ∃ V, F (c * n + d) = V := ⟨_, rfl⟩
              rw [hV] at cf ⊢
              clear hV
              cases V
              · go_wp2
                go_roundw
                case rel => exact ⟨d + 1, t', by omega, by go_num, rfl⟩
                case measure => simp [intOf]; omega
              · go_wp2
                go_roundw
                case rel => exact ⟨d + 1, t', by omega, by go_num, rfl⟩
                case measure => simp [intOf]; omega
        · obtain rfl : d = n := by omega
          obtain ⟨w9, hw9⟩ : ∃ w9, w8.drewN t = w9 := ⟨_, rfl⟩
          have hb9 : Below w8.heap.size w8 w9 := by rw [← hw9]; exact below_drewN' _ t
          have HL9 := hide ((unhide HL8).mono hb9)
          have HI9 := hide ((unhide HI8).mono hb9)
          have HO0 := hide (owns_none w9 3)
          have HB0 : Hid (Below w9.heap.size w9 (w9.alloc (.cells #[] 3))) := hide ((Below.refl _ _).alloc (Nat.le_refl _) _)
          rw [hw9]
          clear hw9 hb9 HL8 HI8 z0 z1 z2 z3 z4 z5
          go_wp2
          go_loopw [16, 17] (fun v i wr => ∃ j : Nat, j ≤ k ∧ i = .int .i64 ((k : Int) - 1 - j) ∧ wr.ownsRow w9.heap.size 3 1 v (j * 2) (ui (twL y k j)) ∧ Below w9.heap.size w9 wr) (fun _ i _ => (intOf i + 1).toNat)
          case atStart => exact ⟨0, Nat.zero_le _, by simp, unhide HO0, unhide HB0⟩
          case round =>
            obtain ⟨j, hj, rfl, hO, hb⟩ := hrel
            have HO := hide hO; have HBr := hide hb
            have HIr := hide ((unhide HI9).mono hb)
            clear hO hb HO0 HB0
            by_cases hlj : j < k
            · obtain ⟨I, hI⟩ : ∃ I, k - 1 - j = I := ⟨_, rfl⟩
              have HT := hide (tw_succ y k j)
              rw [hI] at HT
              have hIk : I < k := by omega
              rw [show (k : Int) - 1 - j = (I : Int) by omega]
              have HII := hide hI
              clear hI
              obtain ⟨bx, ox, rfl, -, cx⟩ := unhide HIr I hIk
              dsimp only at cx
              obtain ⟨yq, hyq'⟩ : ∃ yq, y I = yq := ⟨_, rfl⟩
              rw [hyq'] at cx HT
              have HYQ := hide hyq'
              clear hyq'
              have hIk' : (I : Int) < k := by omega
              obtain ⟨i0, hi, hz0, hz1, hz2⟩ := info_parts info_int
              go_wp2_with (at_builtin; refine wpList_append_own_at _ rfl _ _ 27 rfl w9.heap.size 3 i0 _ 1 8 Tryd.underlying27 hi hz0 hz1 hz2 rfl (by omega) _ _ _ rfl ((unhide HO).alloc _) ⟨wr.heap.size, 0, none⟩ 1 1 [.int .i64 (yq : Int)] rfl rfl (cell_one_new wr _ _) (by simp [Value.oneCell']) (by unfold maxLen; omega) (by omega) (by have := (unhide HBr).size; simp; omega) ?_)
              intro v' w3' ho' hgr' _ _
              have hB3 := ((unhide HBr).alloc (unhide HBr).size (.cells #[.int .i64 (yq : Int)] 3)).grown hgr' (by have := (unhide HBr).size; simp; omega) (fun q' e => owns_block (unhide HO) e)
              have HO3 : Hid (w3'.ownsRow w9.heap.size 3 1 v' (j * 2 + 1) (ui (twL y k j ++ [yq]))) := hide (by rw [ui_snoc]; exact ho')
              have HB3 := hide hB3
              have cx3 : w3'.cell? ⟨bx, ox + I, none⟩ = some (.int .i64 (yq : Int)) := by
                obtain ⟨b', o', e, -, c3⟩ := (unhide HI9).mono hB3 I hIk
                cases e
                dsimp only at c3
                rwa [unhide HYQ] at c3
              clear ho' hgr' hB3 HO HBr HIr cx
              go_wp2_with (at_builtin; refine wpList_append_own_at _ rfl _ _ 27 rfl w9.heap.size 3 i0 _ 1 8 Tryd.underlying27 hi hz0 hz1 hz2 rfl (by omega) _ _ _ rfl ((unhide HO3).alloc _) ⟨w3'.heap.size, 0, none⟩ 1 1 [.int .i64 (yq : Int)] rfl rfl (cell_one_new w3' _ _) (by simp [Value.oneCell']) (by unfold maxLen; omega) (by omega) (by have := (unhide HB3).size; simp; omega) ?_)
              intro v'' w4' ho' hgr' _ _
              have hB4 := ((unhide HB3).alloc (unhide HB3).size (.cells #[.int .i64 (yq : Int)] 3)).grown hgr' (by have := (unhide HB3).size; simp; omega) (fun q' e => owns_block (unhide HO3) e)
              have HO4 : Hid (w4'.ownsRow w9.heap.size 3 1 v'' ((j + 1) * 2) (ui (twL y k (j + 1)))) := hide (by rw [unhide HT, ui_snoc, show (j + 1) * 2 = j * 2 + 1 + 1 by omega]; exact ho')
              have HB4 := hide hB4
              clear ho' hgr' hB4 HO3 HB3 cx3 hi hz0 hz1 hz2 HT
              go_wp2
              go_roundw
              case rel => exact ⟨j + 1, by omega, by have := unhide HII; simp; omega, unhide HO4, unhide HB4⟩
              case measure => simp [intOf]
            · obtain rfl : j = k := by omega
              obtain ⟨ta, tcap, rfl, hTI⟩ := ints_of_owns (unhide HO)
              have HTI := hide hTI
              have HLr := hide ((unhide HL9).mono (unhide HBr))
              obtain ⟨⟨x0, x1, x2, x3, x4, x5⟩, -⟩ := six (unhide HLr).B5
              have g3 : ¬ (0 : Int) ≤ (j : Int) - 1 - j := by omega
              clear hTI
              go_wp2_with fail
              refine (implJoin_any d bt top _ _ _ ta s s s (j * 2) _ _ _ tcap F J M _ wr (by omega) (unhide HLr).k1 (unhide HLr).k2 (unhide HLr).k3 (unhide HTI) (unhide HLr).tab true ⟨fun _ => ⟨d, bt, tp, unhide HVP⟩, fun _ => rfl⟩).mono ?_
              rintro e w10 ⟨r, rfl, hR, hb10⟩
              have hC : r = c := by
                rcases hR with ⟨hbad, -⟩ | ⟨-, -, n', y', c', e1, e2, e3, e4⟩
                · exfalso
                  rcases hbad with h | h | ⟨i, hi, h⟩
                  · cases h
                  · omega
                  · have : (twL y j j).getD i 0 < d := (all_getD (P := fun u => u < d) (twL y j j)).2 (fun u hu => by
                      obtain ⟨i, hi, rfl⟩ := List.mem_map.1 ((tw_mem y j u).2 hu)
                      exact unhide HYN i) i (by rw [tw_len]; exact hi)
                    dsimp only at h
                    omega
                · obtain rfl : d = n' := by omega
                  have hl1 : Lub F d (twL y j j).length (fun i => (twL y j j).getD i 0) c' := by
                    rw [tw_len]
                    exact e3.congr fun i hi => by have := (e2 i hi).1; dsimp only at this; omega
                  have hl2 := lub_same hl1 fun u => (tw_mem y j u).symm
                  rw [xs_len] at hl2
                  have hl3 : Lub F d j y c' := hl2.congr fun i hi => xs_at y hi
                  rw [e4, (unhide HVP).lub_one hl3 (unhide HL)]
              obtain rfl := hC
              have HL10 := hide ((unhide HLr).mono hb10)
              have HI10 := hide (((unhide HI9).mono (unhide HBr)).mono hb10)
              clear hR hb10 x0 x1 x2 x3 x4 x5 HO HBr HLr HTI HIr
              obtain ⟨⟨z0, z1, z2, z3, z4, z5⟩, -⟩ := six (unhide HL10).B7
              obtain ⟨⟨x0, x1, x2, x3, x4, x5⟩, -⟩ := six (unhide HL10).B5
              have HBT := hide ((unhide HVP).lub0 y)
              go_wp2
              go_loopw [18, 19] (fun v i wr => ∃ (q t st : Nat), q ≤ j ∧ i = .int .i64 q ∧ v = .int .i64 st ∧ Lub F d q y st ∧ wr = w10.drewN t) (fun _ i _ => j - (intOf i).toNat)
              case atStart => exact ⟨0, 0, bt, Nat.zero_le _, rfl, rfl, unhide HBT, rfl⟩
              case round =>
                obtain ⟨q, t', st, hq, rfl, rfl, hLq, rfl⟩ := hrel
                have hst := hLq.1
                by_cases hlq : q < j
                · have hlq' : (q : Int) < j := by omega
                  obtain ⟨bx, ox, rfl, -, cx⟩ := unhide HI10 q hlq
                  obtain ⟨j', eJ, hL'⟩ := (unhide HVP).lub_succ hLq fun i _ => unhide HYN i
                  have hj' := hL'.1
                  have hyq := unhide HYN q
                  dsimp only at cx
                  obtain ⟨yq, hyq'⟩ : ∃ yq, y q = yq := ⟨_, rfl⟩
                  rw [hyq'] at cx hyq eJ
                  clear hyq'
                  have i1 := idx_lt hst hyq
                  have i2 := sq_le hn32
                  obtain ⟨bf, of, eb, -, cf⟩ := (unhide HL10).k2 (st * d + yq) (by have := unhide HSS; omega)
                  cases eb
                  rw [eJ, Nat.zero_add] at cf
                  have i3 : 0 ≤ (st : Int) * d := by rw [← Int.natCast_mul]; omega
                  have i4 : (st : Int) * d + yq < s := by rw [← Int.natCast_mul]; have := unhide HSS; omega
                  have i5 : (st : Int) * d ≤ 1024 := by rw [← Int.natCast_mul]; omega
                  have HLq := hide hL'
                  have g4 : decide (d ≤ j') = false := by simp; omega
                  have g5 : decide ((j' : Int) < 0) = false := by simp
                  clear i1 i2 hLq hL' eJ
                  go_wp2
                  go_quiet (fail)
                  go_wp2
                  go_roundw
                  case rel => exact ⟨q + 1, _, j', by omega, by go_num, rfl, unhide HLq, rfl⟩
                  case measure => simp [intOf]; omega
                · obtain rfl : q = j := by omega
                  obtain rfl := (unhide HVP).lub_one hLq (unhide HL)
                  have HLow := hide ((unhide HL10).low.trans ((below_drewN' w10 t').mono (unhide HL10).low.size))
                  go_wp2
                  go_ret
                  exact ⟨rfl, unhide HLow⟩
end Go.Proofs.YtnmpkdmflijhpaaDoor

/- FnLattice: orders that are lattices, and more than twenty bytes. -/
namespace Go.Proofs.YtnmpkdmflijhpaaDoor
open Go Go.RowKit

set_option maxRecDepth 100000 in
set_option maxHeartbeats 16000000 in
theorem lawLat_full2 (a b : Option Addr) (n1 n2 c1 c2 : Nat) (f g : Nat → Nat) (w : World) (h1 : n1 ≤ 1048576) (h2 : n2 ≤ 1048576) (hcase : 20 < n2) (ha : Byts w a n1 f) (hb : Byts w b n2 g) (ht : Tab w) (N : Int) (l : List (Int × Int))
    (hD : ∀ (w : World) (a : Option Addr) (c : Nat), Byts w a n1 f → Calls Tryd.prog 26 #[.slice a n1 c] w fun e w' => OrdOut w N l e w') (s : Nat) (F : Nat → Bool) (J M : Nat → Int) (bot top : Int) (hV : Valid N s s s F J M bot top)
    (hS : SpecF N l.length (pf l) (pg l) s F J M bot top) (hI : ImplF N l.length (pf l) (pg l) s F J M bot top) :
    Calls Tryd.prog 6 #[.slice a n1 c1, .slice b n2 c2] w fun e w' => e = .returned (.bool true) ∧ Below w.heap.size w w' := by
  have d1 : ¬ (1048576 : Int) < n1 := by omega
  have d2 : ¬ (1048576 : Int) < n2 := by omega
  obtain ⟨n, bt, tp, hv⟩ := hV
  obtain rfl := hv.hN
  obtain rfl := hv.hb
  obtain rfl := hv.l1
  have hn1 := hv.h1; have hn32 := hv.h32
  have HVP := hide hv
  clear hv
  have hnn : ((n * n : Nat) : Int) = (n : Int) * n := by simp
  have hnb : n * n ≤ 1024 := Nat.mul_le_mul hn32 hn32
  obtain ⟨s, hs⟩ : ∃ s, n * n = s := ⟨_, rfl⟩
  rw [hs] at HVP hS hI hnn hnb
  have HSS := hide hs
  clear hs
  have HNN := hide hnn
  clear hnn
  have HA := hide ha; have HT := hide ht; have HD := hide hD; have HS := hide hS; have HI := hide hI; have HBy := hide hb
  clear ha ht hD hS hI hb
  go_enter Tryd.func6, Tryd.ntmps6
  go_wp2_with fail
  refine (unhide HD w a c1 (unhide HA)).mono ?_
  rintro e w1 ⟨v, rfl, hO, hb1⟩
  obtain ⟨X, cap, rfl, hP⟩ := pairs_of_owns hO
  have HP := hide hP; have HB1 := hide hb1
  clear hO hP hb1
  go_wp2_with fail
  refine (unhide HI w1 X cap (unhide HP) ((unhide HT).mono (unhide HB1))).mono ?_
  rintro e w2 ⟨G1, G2, G3, rfl, g1, g2, g3, -, -, -, -, -, -, hb2⟩
  have HB2 := hide ((unhide HB1).trans (hb2.mono (unhide HB1).size))
  have HG := hide (And.intro g1 (And.intro g2 g3))
  clear hb2 HP g1 g2 g3
  obtain ⟨w3, hw3⟩ : ∃ w3, w2.alloc (.cells #[.int .i64 n, .slice (some ⟨G1, 0, none⟩) s s, .slice (some ⟨G2, 0, none⟩) s s, .slice (some ⟨G3, 0, none⟩) s s, .int .i64 bt, .int .i64 top] 29) = w3 := ⟨_, rfl⟩
  have b5 : Blk w3 w2.heap.size 29 [.int .i64 n, .slice (some ⟨G1, 0, none⟩) s s, .slice (some ⟨G2, 0, none⟩) s s, .slice (some ⟨G3, 0, none⟩) s s, .int .i64 bt, .int .i64 top] := by rw [← hw3]; exact Blk.new w2 29 #[.int .i64 n, .slice (some ⟨G1, 0, none⟩) s s, .slice (some ⟨G2, 0, none⟩) s s, .slice (some ⟨G3, 0, none⟩) s s, .int .i64 bt, .int .i64 top]
  have hb3 : Below w.heap.size w w3 := by rw [← hw3]; exact (unhide HB2).alloc (unhide HB2).size _
  have hb23 : Below w2.heap.size w2 w3 := by rw [← hw3]; exact (Below.refl _ _).alloc (Nat.le_refl _) _
  have HG3 := hide (And.intro ((unhide HG).1.mono hb23 (unhide HG).1.lt) (And.intro ((unhide HG).2.1.mono hb23 (unhide HG).2.1.lt) ((unhide HG).2.2.mono hb23 (unhide HG).2.2.lt)))
  obtain ⟨X5, hX5⟩ : ∃ X5, w2.heap.size = X5 := ⟨_, rfl⟩
  rw [hX5] at b5
  have H5 := hide b5; have HB3 := hide hb3; have HW3 := hide hw3; have HX5 := hide hX5
  clear b5 hb3 hw3 hX5 HG hb23
  go_wp2_with fail
  rw [unhide HW3, unhide HX5]
  clear HW3 HX5
  refine (unhide HD w3 a c1 ((unhide HA).mono (unhide HB3))).mono ?_
  rintro e w4 ⟨v, rfl, hO, hb4⟩
  obtain ⟨X', cap', rfl, hP⟩ := pairs_of_owns hO
  have HP := hide hP
  have HB4 := hide ((unhide HB3).trans (hb4.mono (unhide HB3).size)); have H54 := hide ((unhide H5).mono hb4 (unhide H5).lt)
  have HG4 := hide (And.intro ((unhide HG3).1.mono hb4 (unhide HG3).1.lt) (And.intro ((unhide HG3).2.1.mono hb4 (unhide HG3).2.1.lt) ((unhide HG3).2.2.mono hb4 (unhide HG3).2.2.lt)))
  clear hO hP hb4 H5 HG3
  go_wp2_with fail
  refine (unhide HS w4 X' cap' (unhide HP)).mono ?_
  rintro e w5 ⟨a1, a2, a3, l1, l2, l3, rfl, s1, s2, s3, hb5⟩
  obtain ⟨W6, hw6⟩ : ∃ W6, w5.alloc (.cells #[.int .i64 n, .slice a1 s l1, .slice a2 s l2, .slice a3 s l3, .int .i64 bt, .int .i64 top] 29) = W6 := ⟨_, rfl⟩
  obtain ⟨X7, hX7⟩ : ∃ X7, w5.heap.size = X7 := ⟨_, rfl⟩
  have hb6 : Below w5.heap.size w5 W6 := by rw [← hw6]; exact (Below.refl _ _).alloc (Nat.le_refl _) _
  have hb46 : Below w4.heap.size w4 W6 := hb5.trans (hb6.mono hb5.size)
  have hlow : Below w.heap.size w W6 := (unhide HB4).trans (hb46.mono (unhide HB4).size)
  have hLF : LF w W6 b n2 g n bt top s F J M X5 X7 G1 G2 G3 a1 a2 a3 l1 l2 l3 :=
    ⟨(unhide H54).mono hb46 (unhide H54).lt, by rw [← hX7, ← hw6]; exact Blk.new w5 29 #[.int .i64 n, .slice a1 s l1, .slice a2 s l2, .slice a3 s l3, .int .i64 bt, .int .i64 top], (Blk.bools (unhide HG4).1).mono hb46, (Blk.ints (unhide HG4).2.1).mono hb46, (Blk.ints (unhide HG4).2.2).mono hb46, s1.mono hb6, (unhide HBy).mono hlow, (unhide HT).mono hlow, hlow⟩
  obtain ⟨⟨x0, x1, x2, x3, x4, x5⟩, -⟩ := six hLF.B5
  obtain ⟨⟨y0, y1, y2, y3, y4, y5⟩, -⟩ := six hLF.B7
  have HLF := hide hLF
  have hnn' : (n : Int) * n = s := (unhide HNN).symm
  clear hb5 hb6 hb46 hlow hLF s1 s2 s3 HP HG4 H54 HB4 HB3 HB2 HB1
  go_wp2_with fail
  try rw [hw6]
  try rw [hX7]
  clear hw6 hX7
  refine (implValid_any n bt top _ _ _ s s s _ _ _ F J M W6 (unhide HLF).k1 (unhide HLF).k2 (unhide HLF).k3 (unhide HLF).tab true ⟨fun _ => ⟨n, bt, tp, unhide HVP⟩, fun _ => rfl⟩).mono ?_
  rintro e w7 ⟨rfl, hb7⟩
  have HLF7 := hide ((unhide HLF).mono hb7)
  clear hb7 HLF x0 x1 x2 x3 x4 x5 y0 y1 y2 y3 y4 y5
  obtain ⟨m, hm⟩ : ∃ m, min n2 20 = m := ⟨_, rfl⟩
  have hm1 : m ≤ n2 := by omega
  have hm2 : m ≤ 20 := by omega
  have HM := hide hm
  clear hm
  obtain ⟨y, hy⟩ : ∃ y : Nat → Nat, ∀ i, y i = g i % n := ⟨fun i => g i % n, fun _ => rfl⟩
  have hyn : ∀ i, y i < n := fun i => by rw [hy]; exact Nat.mod_lt _ hn1
  have HYI := hide hy; have HYN := hide hyn
  clear hy hyn
  have HO0 := hide (owns_none w7 3)
  have HB0 : Hid (Below w7.heap.size w7 (w7.alloc (.cells #[] 3))) := hide ((Below.refl _ _).alloc (Nat.le_refl _) _)
  go_wp2
  go_loopw [10, 11] (fun v i wr => ∃ k : Nat, k ≤ m ∧ i = .int .i64 k ∧ wr.ownsRow w7.heap.size 3 1 v k (ui (xsL y k)) ∧ Below w7.heap.size w7 wr) (fun _ i _ => m - (intOf i).toNat)
  case atStart => exact ⟨0, Nat.zero_le _, rfl, unhide HO0, unhide HB0⟩
  case round =>
    obtain ⟨k, hk, rfl, hO, hb⟩ := hrel
    have HO := hide hO; have HBr := hide hb
    have HLr := hide ((unhide HLF7).mono hb)
    clear hO hb HO0 HB0
    by_cases hlt : k < m
    · have e1 : (k : Int) < n2 := by omega
      have e2 : (k : Int) < 20 := by omega
      obtain ⟨hg, bb, off, rfl, -, cg⟩ := (unhide HLr).byt k (by omega)
      have HXS := hide (xs_succ y k)
      have hyk := unhide HYN k
      have r1 : ((g k : Nat) : Int).tmod n = y k := by rw [unhide HYI k]; rfl
      have r2 : ((g k : Nat) : Int) % n = y k := by rw [unhide HYI k]; rfl
      obtain ⟨gk, hgk⟩ : ∃ gk, g k = gk := ⟨_, rfl⟩
      obtain ⟨yk, hyk'⟩ : ∃ yk, y k = yk := ⟨_, rfl⟩
      rw [hgk] at hg cg r1 r2
      rw [hyk'] at r1 r2 HXS hyk
      clear hgk hyk'
      have hn0 : ¬ (n : Int) = 0 := by omega
      have hn0' : ¬ n = 0 := by omega
      obtain ⟨i0, hi, hz0, hz1, hz2⟩ := info_parts info_int
      go_wp2_with (at_builtin; refine wpList_append_own_at _ rfl _ _ 27 rfl w7.heap.size 3 i0 _ 1 8 Tryd.underlying27 hi hz0 hz1 hz2 rfl (by omega) _ _ _ rfl ((unhide HO).alloc _) ⟨wr.heap.size, 0, none⟩ 1 1 [.int .i64 (yk : Int)] rfl rfl (cell_one_new wr _ _) (by simp [Value.oneCell']) (by unfold maxLen; omega) (by omega) (by have := (unhide HBr).size; simp; omega) ?_)
      intro v' w8 ho' hgr' _ _
      have hB8 := ((unhide HBr).alloc (unhide HBr).size (.cells #[.int .i64 (yk : Int)] 3)).grown hgr' (by have := (unhide HBr).size; simp; omega) (fun q' e => owns_block (unhide HO) e)
      have HO8 : Hid (w8.ownsRow w7.heap.size 3 1 v' (k + 1) (ui (xsL y (k + 1)))) := hide (by rw [unhide HXS, ui_snoc]; exact ho')
      have HB8 := hide hB8
      clear ho' hgr' hB8 hi hz0 hz1 hz2 HO HBr HLr cg r1 r2
      go_wp2
      go_roundw
      case rel => exact ⟨k + 1, by omega, by go_num, unhide HO8, unhide HB8⟩
      case measure => simp [intOf]; omega
    · obtain rfl : k = m := by omega
      have e3 : (k : Int) < n2 := by have := unhide HM; omega
      have e4 : ¬ (k : Int) < 20 := by have := unhide HM; omega
      obtain ⟨xa, xcap, rfl, hI⟩ := ints_of_owns (unhide HO)
      have HIx : Hid (Ints wr xa k fun i => (y i : Int)) := hide fun i hi => by
        have := hI i hi
        dsimp only at this ⊢
        rwa [xs_at y hi] at this
      obtain ⟨⟨x0, x1, x2, x3, x4, x5⟩, -⟩ := six (unhide HLr).B5
      clear hI
      go_wp2_with fail
      refine (implJoin_any n bt top _ _ _ xa s s s k _ _ _ xcap F J M (fun i => (y i : Int)) wr (by omega) (unhide HLr).k1 (unhide HLr).k2 (unhide HLr).k3 (unhide HIx) (unhide HLr).tab true ⟨fun _ => ⟨n, bt, tp, unhide HVP⟩, fun _ => rfl⟩).mono ?_
      rintro e w8 ⟨r, rfl, hR, hb8⟩
      have hC : ∃ c : Nat, r = c ∧ Lub F n k y c := by
        rcases hR with ⟨hbad, -⟩ | ⟨-, -, n', y', c, e1, e2, e3, e4⟩
        · exfalso
          rcases hbad with h | h | ⟨i, hi, h⟩
          · cases h
          · omega
          · have := unhide HYN i; dsimp only at h; omega
        · obtain rfl : n = n' := by omega
          exact ⟨c, e4, e3.congr fun i hi => by have := (e2 i hi).1; dsimp only at this; omega⟩
      obtain ⟨c, rfl, hL⟩ := hC
      have hc := hL.1
      have HL := hide hL
      have HL8 := hide ((unhide HLr).mono hb8)
      have HI8 := hide ((unhide HIx).mono hb8)
      clear hR hL hb8 x0 x1 x2 x3 x4 x5 HO HBr HLr HIx HLF7
      obtain ⟨⟨z0, z1, z2, z3, z4, z5⟩, -⟩ := six (unhide HL8).B7
      have g1 : decide (n ≤ c) = false := by simp; omega
      have g2 : decide ((c : Int) < 0) = false := by simp
      go_wp2
      go_loopw [13, 14, 15] (fun i _ _ wr => ∃ (d t : Nat), d ≤ n ∧ i = .int .i64 d ∧ wr = w8.drewN t) (fun i _ _ _ => n - (intOf i).toNat)
      case atStart => exact ⟨0, 0, Nat.zero_le _, rfl, rfl⟩
      case round =>
        obtain ⟨d, t, hd, rfl, rfl⟩ := hrel
        by_cases hdn : d < n
        · have hdn' : (d : Int) < n := by omega
          go_wp2
          go_loopw [14, 15] (fun v i wr' => ∃ (q t : Nat), q ≤ k ∧ i = .int .i64 q ∧ v = .bool (abP F y n q d) ∧ wr' = w8.drewN t) (fun _ i _ => k - (intOf i).toNat)
          case atStart => exact ⟨0, t, Nat.zero_le _, rfl, rfl, rfl⟩
          case round =>
            obtain ⟨q, t', hq, rfl, rfl, rfl⟩ := hrel
            by_cases hlq : q < k
            · have hlq' : (q : Int) < k := by omega
              obtain ⟨bx, ox, rfl, -, cx⟩ := unhide HI8 q hlq
              have hyq := unhide HYN q
              have HAB := hide (abP_succ F y n q d)
              dsimp only at cx
              obtain ⟨yq, hyq'⟩ : ∃ yq, y q = yq := ⟨_, rfl⟩
              rw [hyq'] at cx hyq HAB
              clear hyq'
              have i1 := idx_lt hyq hdn
              have i2 := sq_le hn32
              obtain ⟨bf, of, rfl, -, cf⟩ := (unhide HL8).q1 (yq * n + d) (by have := unhide HSS; omega)
              have i3 : 0 ≤ (yq : Int) * n := by rw [← Int.natCast_mul]; omega
              have i4 : (yq : Int) * n + d < s := by rw [← Int.natCast_mul]; have := unhide HSS; omega
              have i5 : (yq : Int) * n ≤ 1024 := by rw [← Int.natCast_mul]; omega
              clear i1 i2
              cases hF : F (yq * n + d)
              · rw [hF] at cf HAB
                rw [Bool.and_false] at HAB
                go_wp2
                go_quiet (fail)
                go_wp2
                go_roundw
                case rel => exact ⟨q + 1, _, by omega, by go_num, by rw [unhide HAB], rfl⟩
                case measure => simp [intOf]; omega
              · rw [hF] at cf HAB
                rw [Bool.and_true] at HAB
                go_wp2
                go_quiet (fail)
                go_wp2
                go_roundw
                case rel => exact ⟨q + 1, _, by omega, by go_num, by rw [unhide HAB], rfl⟩
                case measure => simp [intOf]; omega
            · obtain rfl : q = k := by omega
              have hAB : abP F y n q d = F (c * n + d) := abP_lub (unhide HL) hdn fun i hi a b => (unhide HVP).trans (unhide HYN i) hc hdn a b
              rw [hAB]
              have i1 := idx_lt hc hdn
              have i2 := sq_le hn32
              obtain ⟨bf, of, rfl, -, cf⟩ := (unhide HL8).q1 (c * n + d) (by have := unhide HSS; omega)
              have i3 : 0 ≤ (c : Int) * n := by rw [← Int.natCast_mul]; omega
              have i4 : (c : Int) * n + d < s := by rw [← Int.natCast_mul]; have := unhide HSS; omega
              have i5 : (c : Int) * n ≤ 1024 := by rw [← Int.natCast_mul]; omega
              clear i1 i2 hAB
              obtain ⟨V, hV⟩ : ∃ V, F (c * n + d) = V := ⟨_, rfl⟩
              rw [hV] at cf ⊢
              clear hV
              cases V
              · go_wp2
                go_roundw
                case rel => exact ⟨d + 1, t', by omega, by go_num, rfl⟩
                case measure => simp [intOf]; omega
              · go_wp2
                go_roundw
                case rel => exact ⟨d + 1, t', by omega, by go_num, rfl⟩
                case measure => simp [intOf]; omega
        · obtain rfl : d = n := by omega
          obtain ⟨w9, hw9⟩ : ∃ w9, w8.drewN t = w9 := ⟨_, rfl⟩
          have hb9 : Below w8.heap.size w8 w9 := by rw [← hw9]; exact below_drewN' _ t
          have HL9 := hide ((unhide HL8).mono hb9)
          have HI9 := hide ((unhide HI8).mono hb9)
          have HO0 := hide (owns_none w9 3)
          have HB0 : Hid (Below w9.heap.size w9 (w9.alloc (.cells #[] 3))) := hide ((Below.refl _ _).alloc (Nat.le_refl _) _)
          rw [hw9]
          clear hw9 hb9 HL8 HI8 z0 z1 z2 z3 z4 z5
          go_wp2
          go_loopw [16, 17] (fun v i wr => ∃ j : Nat, j ≤ k ∧ i = .int .i64 ((k : Int) - 1 - j) ∧ wr.ownsRow w9.heap.size 3 1 v (j * 2) (ui (twL y k j)) ∧ Below w9.heap.size w9 wr) (fun _ i _ => (intOf i + 1).toNat)
          case atStart => exact ⟨0, Nat.zero_le _, by simp, unhide HO0, unhide HB0⟩
          case round =>
            obtain ⟨j, hj, rfl, hO, hb⟩ := hrel
            have HO := hide hO; have HBr := hide hb
            have HIr := hide ((unhide HI9).mono hb)
            clear hO hb HO0 HB0
            by_cases hlj : j < k
            · obtain ⟨I, hI⟩ : ∃ I, k - 1 - j = I := ⟨_, rfl⟩
              have HT := hide (tw_succ y k j)
              rw [hI] at HT
              have hIk : I < k := by omega
              rw [show (k : Int) - 1 - j = (I : Int) by omega]
              have HII := hide hI
              clear hI
              obtain ⟨bx, ox, rfl, -, cx⟩ := unhide HIr I hIk
              dsimp only at cx
              obtain ⟨yq, hyq'⟩ : ∃ yq, y I = yq := ⟨_, rfl⟩
              rw [hyq'] at cx HT
              have HYQ := hide hyq'
              clear hyq'
              have hIk' : (I : Int) < k := by omega
              obtain ⟨i0, hi, hz0, hz1, hz2⟩ := info_parts info_int
              go_wp2_with (at_builtin; refine wpList_append_own_at _ rfl _ _ 27 rfl w9.heap.size 3 i0 _ 1 8 Tryd.underlying27 hi hz0 hz1 hz2 rfl (by omega) _ _ _ rfl ((unhide HO).alloc _) ⟨wr.heap.size, 0, none⟩ 1 1 [.int .i64 (yq : Int)] rfl rfl (cell_one_new wr _ _) (by simp [Value.oneCell']) (by unfold maxLen; omega) (by omega) (by have := (unhide HBr).size; simp; omega) ?_)
              intro v' w3' ho' hgr' _ _
              have hB3 := ((unhide HBr).alloc (unhide HBr).size (.cells #[.int .i64 (yq : Int)] 3)).grown hgr' (by have := (unhide HBr).size; simp; omega) (fun q' e => owns_block (unhide HO) e)
              have HO3 : Hid (w3'.ownsRow w9.heap.size 3 1 v' (j * 2 + 1) (ui (twL y k j ++ [yq]))) := hide (by rw [ui_snoc]; exact ho')
              have HB3 := hide hB3
              have cx3 : w3'.cell? ⟨bx, ox + I, none⟩ = some (.int .i64 (yq : Int)) := by
                obtain ⟨b', o', e, -, c3⟩ := (unhide HI9).mono hB3 I hIk
                cases e
                dsimp only at c3
                rwa [unhide HYQ] at c3
              clear ho' hgr' hB3 HO HBr HIr cx
              go_wp2_with (at_builtin; refine wpList_append_own_at _ rfl _ _ 27 rfl w9.heap.size 3 i0 _ 1 8 Tryd.underlying27 hi hz0 hz1 hz2 rfl (by omega) _ _ _ rfl ((unhide HO3).alloc _) ⟨w3'.heap.size, 0, none⟩ 1 1 [.int .i64 (yq : Int)] rfl rfl (cell_one_new w3' _ _) (by simp [Value.oneCell']) (by unfold maxLen; omega) (by omega) (by have := (unhide HB3).size; simp; omega) ?_)
              intro v'' w4' ho' hgr' _ _
              have hB4 := ((unhide HB3).alloc (unhide HB3).size (.cells #[.int .i64 (yq : Int)] 3)).grown hgr' (by have := (unhide HB3).size; simp; omega) (fun q' e => owns_block (unhide HO3) e)
              have HO4 : Hid (w4'.ownsRow w9.heap.size 3 1 v'' ((j + 1) * 2) (ui (twL y k (j + 1)))) := hide (by rw [unhide HT, ui_snoc, show (j + 1) * 2 = j * 2 + 1 + 1 by omega]; exact ho')
              have HB4 := hide hB4
              clear ho' hgr' hB4 HO3 HB3 cx3 hi hz0 hz1 hz2 HT
              go_wp2
              go_roundw
              case rel => exact ⟨j + 1, by omega, by have := unhide HII; simp; omega, unhide HO4, unhide HB4⟩
              case measure => simp [intOf]
            · obtain rfl : j = k := by omega
              obtain ⟨ta, tcap, rfl, hTI⟩ := ints_of_owns (unhide HO)
              have HTI := hide hTI
              have HLr := hide ((unhide HL9).mono (unhide HBr))
              obtain ⟨⟨x0, x1, x2, x3, x4, x5⟩, -⟩ := six (unhide HLr).B5
              have g3 : ¬ (0 : Int) ≤ (j : Int) - 1 - j := by omega
              clear hTI
              go_wp2_with fail
              refine (implJoin_any d bt top _ _ _ ta s s s (j * 2) _ _ _ tcap F J M _ wr (by omega) (unhide HLr).k1 (unhide HLr).k2 (unhide HLr).k3 (unhide HTI) (unhide HLr).tab true ⟨fun _ => ⟨d, bt, tp, unhide HVP⟩, fun _ => rfl⟩).mono ?_
              rintro e w10 ⟨r, rfl, hR, hb10⟩
              have hC : r = c := by
                rcases hR with ⟨hbad, -⟩ | ⟨-, -, n', y', c', e1, e2, e3, e4⟩
                · exfalso
                  rcases hbad with h | h | ⟨i, hi, h⟩
                  · cases h
                  · omega
                  · have : (twL y j j).getD i 0 < d := (all_getD (P := fun u => u < d) (twL y j j)).2 (fun u hu => by
                      obtain ⟨i, hi, rfl⟩ := List.mem_map.1 ((tw_mem y j u).2 hu)
                      exact unhide HYN i) i (by rw [tw_len]; exact hi)
                    dsimp only at h
                    omega
                · obtain rfl : d = n' := by omega
                  have hl1 : Lub F d (twL y j j).length (fun i => (twL y j j).getD i 0) c' := by
                    rw [tw_len]
                    exact e3.congr fun i hi => by have := (e2 i hi).1; dsimp only at this; omega
                  have hl2 := lub_same hl1 fun u => (tw_mem y j u).symm
                  rw [xs_len] at hl2
                  have hl3 : Lub F d j y c' := hl2.congr fun i hi => xs_at y hi
                  rw [e4, (unhide HVP).lub_one hl3 (unhide HL)]
              obtain rfl := hC
              have HL10 := hide ((unhide HLr).mono hb10)
              have HI10 := hide (((unhide HI9).mono (unhide HBr)).mono hb10)
              clear hR hb10 x0 x1 x2 x3 x4 x5 HO HBr HLr HTI HIr
              obtain ⟨⟨z0, z1, z2, z3, z4, z5⟩, -⟩ := six (unhide HL10).B7
              obtain ⟨⟨x0, x1, x2, x3, x4, x5⟩, -⟩ := six (unhide HL10).B5
              have HBT := hide ((unhide HVP).lub0 y)
              go_wp2
              go_loopw [18, 19] (fun v i wr => ∃ (q t st : Nat), q ≤ j ∧ i = .int .i64 q ∧ v = .int .i64 st ∧ Lub F d q y st ∧ wr = w10.drewN t) (fun _ i _ => j - (intOf i).toNat)
              case atStart => exact ⟨0, 0, bt, Nat.zero_le _, rfl, rfl, unhide HBT, rfl⟩
              case round =>
                obtain ⟨q, t', st, hq, rfl, rfl, hLq, rfl⟩ := hrel
                have hst := hLq.1
                by_cases hlq : q < j
                · have hlq' : (q : Int) < j := by omega
                  obtain ⟨bx, ox, rfl, -, cx⟩ := unhide HI10 q hlq
                  obtain ⟨j', eJ, hL'⟩ := (unhide HVP).lub_succ hLq fun i _ => unhide HYN i
                  have hj' := hL'.1
                  have hyq := unhide HYN q
                  dsimp only at cx
                  obtain ⟨yq, hyq'⟩ : ∃ yq, y q = yq := ⟨_, rfl⟩
                  rw [hyq'] at cx hyq eJ
                  clear hyq'
                  have i1 := idx_lt hst hyq
                  have i2 := sq_le hn32
                  obtain ⟨bf, of, eb, -, cf⟩ := (unhide HL10).k2 (st * d + yq) (by have := unhide HSS; omega)
                  cases eb
                  rw [eJ, Nat.zero_add] at cf
                  have i3 : 0 ≤ (st : Int) * d := by rw [← Int.natCast_mul]; omega
                  have i4 : (st : Int) * d + yq < s := by rw [← Int.natCast_mul]; have := unhide HSS; omega
                  have i5 : (st : Int) * d ≤ 1024 := by rw [← Int.natCast_mul]; omega
                  have HLq := hide hL'
                  have g4 : decide (d ≤ j') = false := by simp; omega
                  have g5 : decide ((j' : Int) < 0) = false := by simp
                  clear i1 i2 hLq hL' eJ
                  go_wp2
                  go_quiet (fail)
                  go_wp2
                  go_roundw
                  case rel => exact ⟨q + 1, _, j', by omega, by go_num, rfl, unhide HLq, rfl⟩
                  case measure => simp [intOf]; omega
                · obtain rfl : q = j := by omega
                  obtain rfl := (unhide HVP).lub_one hLq (unhide HL)
                  have HLow := hide ((unhide HL10).low.trans ((below_drewN' w10 t').mono (unhide HL10).low.size))
                  go_wp2
                  go_ret
                  exact ⟨rfl, unhide HLow⟩

theorem lawLat_any (a b : Option Addr) (n1 n2 c1 c2 : Nat) (f g : Nat → Nat) (w : World) (h1 : n1 ≤ 9223372036854775807) (h2 : n2 ≤ 9223372036854775807) (ha : Byts w a n1 f) (hb : Byts w b n2 g) (ht : Tab w) :
    Calls Tryd.prog 6 #[.slice a n1 c1, .slice b n2 c2] w fun e w' => e = .returned (.bool true) ∧ Below w.heap.size w w' := by
  by_cases hl : 1048576 < n1 ∨ 1048576 < n2
  · exact lawLat_long a b n1 n2 c1 c2 w h1 h2 hl
  obtain ⟨N, l, hlen, hD⟩ := DrawBuildLattice_any n1 f (by omega)
  rcases dich2 N l.length (pf l) (pg l) (by omega) with ⟨code, h0, hS, hI⟩ | ⟨s, F, J, M, bot, top, -, hV, hS, hI⟩
  · exact lawLat_zero a b n1 n2 c1 c2 f w (by omega) (by omega) ha ht N l hD code h0 hS hI
  · by_cases hc : n2 ≤ 20
    · exact lawLat_full1 a b n1 n2 c1 c2 f g w (by omega) (by omega) hc ha hb ht N l hD s F J M bot top hV hS hI
    · exact lawLat_full2 a b n1 n2 c1 c2 f g w (by omega) (by omega) (by omega) ha hb ht N l hD s F J M bot top hV hS hI
end Go.Proofs.YtnmpkdmflijhpaaDoor

/- FnLattice: the row and its card. -/
namespace Go.Proofs.YtnmpkdmflijhpaaDoor
open Go Go.RowKit Go.ChangeShapes Go.WideShapes Go.ChangeAt

section
variable {H : Type} {enc : TypeId × Value → H} {P : Program} {w : World} {base : Nat} {held : Bool}
/-- A slice of bytes, opened. -/
theorem got_bytes {t e : TypeId} {n : Nat} {v : Value} {y : DataW H × List MemPlace} (ht : P.underlying t = some (.slice e)) (he : P.underlying e = some (.int .u8)) (hc : P.cellsOf e = 1) (h : DataW.trod enc P w base (fun _ => true) held n t [v] = some y)
    (hlt : ∀ x ∈ y.2, x.block < w.heap.size) : ∃ a len cap f, v = .slice a len cap ∧ len ≤ 9223372036854775807 ∧ Byts w a len f := by
  rcases open_ints ht he hc h with ⟨h0, -⟩ | ⟨a, len, cap, zs, h0, -, hl, hm, hz, rfl, hx, hw⟩
  · exact ⟨none, 0, 0, fun _ => 0, by simpa using h0, by omega, fun k hk => absurd hk (Nat.not_lt_zero _)⟩
  · simp only [if_true] at hz
    refine ⟨some a, len, cap, fun k => (zs.getD k 0).toNat, by simpa using h0, by have : maxLen = 9223372036854775807 := rfl; omega, fun k hk => ?_⟩
    have hk' : k < zs.length := by omega
    obtain ⟨b, off, spot⟩ := a
    have hs : spot = none := by simpa [Addr.add] using World.cell?_spot (hx 0 (by omega))
    subst hs
    have hq := hx k hk'
    rw [add_none] at hq
    have hin : zs.getD k 0 ∈ zs := by rw [List.getD_eq_getElem?_getD, List.getElem?_eq_getElem hk']; exact List.getElem_mem hk'
    have hb := hw _ hin
    have hr : 0 ≤ zs.getD k 0 ∧ zs.getD k 0 < 256 := by
      have e1 : IntKind.u8.min = 0 := by decide
      have e2 : IntKind.u8.max = 255 := by decide
      simp only [Lit.wf, Bool.and_eq_true, decide_eq_true_eq, e1, e2] at hb
      omega
    refine ⟨by dsimp only; omega, b, off, rfl, hlt (.cell b (off + k)) (MemPlace.mem_row.2 ⟨k, hk', by simp⟩), ?_⟩
    rw [hq]
    dsimp only
    rw [Int.toNat_of_nonneg hr.1]
end

set_option maxRecDepth 100000 in
theorem contractL (H : Type) (enc : TypeId × Value → H) (W : World) (base : Nat) (args : Array Value) (ds gs : List (DataW H)) (before : List MemPlace)
    (hval : ∀ (j : Nat) t v, Tryd.f6.params[j]? = some t → args[j]? = some v → Value.okWide Tryd.prog W .any base t v)
    (hW : DataW.Whole enc Tryd.prog Tryd.f6.params.toList Rows.fnLatticeSpec.vars false W args.toList ds gs before) (hL : laidMetH Tryd.prog Rows.fnLatticeRow.laid W) :
    Calls Tryd.prog 6 args W fun e W' => ∃ v, e = .returned v ∧ Rows.fnLatticeSpec.post enc Tryd.prog Tryd.f6 false true false false W args v W' := by
  have hW' := hW
  obtain ⟨p, q, hA0, hV, rfl, hfz, hnd⟩ := hW
  have hA : DataW.TrodAll enc Tryd.prog W 0 (fun _ => true) true Tryd.f6.params.toList args.toList ds p := hA0
  rw [Tryd.params6] at hA hval
  obtain ⟨v0, v1, d0, d1, p0, p1, rfl, rfl, rfl, h0, hs0⟩ := trodAll_two hA
  obtain ⟨rfl, rfl⟩ := trodVars_none hV
  have h0k := h0
  have h1k := hs0
  clear hA0
  simp only [List.append_nil] at hW'
  have hlt : ∀ x ∈ p0 ++ p1, x.block < W.heap.size := fun x hx => by simpa using hW'.lt x hx
  have hargs : ∀ (W' : World), Below W.heap.size W W' → DataW.Trod enc Tryd.prog W' 0 (fun b => decide (b < W.heap.size)) true 50 v0 d0 p0 :=
    fun W' hn => Below.trod laidOut (by kernel_rfl) (of_decide_eq_true (by kernel_rfl)) h0k hn (fun x hx => hlt x (List.mem_append.2 (.inl hx)))
  have hargs1 : ∀ (W' : World), Below W.heap.size W W' → DataW.Trod enc Tryd.prog W' 0 (fun b => decide (b < W.heap.size)) true 50 v1 d1 p1 :=
    fun W' hn => Below.trod laidOut (by kernel_rfl) (of_decide_eq_true (by kernel_rfl)) h1k hn (fun x hx => hlt x (List.mem_append.2 (.inr hx)))
  obtain ⟨a4, m0, c4, rfl⟩ := okWide_slice Tryd.underlying50 (hval 1 50 v1 rfl rfl)
  obtain ⟨fuel, hf⟩ := hs0
  obtain ⟨a4', m, c4', x, e4, l4, k4⟩ := got_bytes (v := .slice a4 m0 c4) Tryd.underlying50 Tryd.underlying5 cellsU8 hf (fun x hx => hlt x (List.mem_append.2 (.inr hx)))
  simp only [Value.slice.injEq] at e4
  obtain ⟨rfl, rfl, rfl⟩ := e4
  obtain ⟨a3, m1, c3, rfl⟩ := okWide_slice Tryd.underlying50 (hval 0 50 v0 rfl rfl)
  obtain ⟨fuel', hf'⟩ := h0
  obtain ⟨a3', m', c3', x', e3, l3, k3⟩ := got_bytes (v := .slice a3 m1 c3) Tryd.underlying50 Tryd.underlying5 cellsU8 hf' (fun x hx => hlt x (List.mem_append.2 (.inl hx)))
  simp only [Value.slice.injEq] at e3
  obtain ⟨rfl, rfl, rfl⟩ := e3
  refine (lawLat_any a3 a4 m1 m0 c3 c4 x' x W l3 l4 k3 k4 (tab_of hL)).mono fun e W' ⟨he, hn⟩ => ?_
  subst he
  exact ⟨_, rfl, ⟨_, _, _, [], _, [], hW', trodAll_mk1 (shut_bool Tryd.underlying4 _), trodAll_mk2 (hargs _ hn) (hargs1 _ hn), rfl, hn.frame _, fun h => by cases h⟩⟩

set_option maxRecDepth 100000 in
theorem witnessL (os : Os) {H : Type} (enc : TypeId × Value → H) (w0 : World) (e : w0 = { World.holding Tryd.prog os ⟨#[], #[], []⟩ with heap := (World.holding Tryd.prog os ⟨#[], #[], []⟩).heap.modify 0 fun
      | .cells _ t frozen => .cells (Lib.deBruijn32tab.map (fun n => Value.int .u8 ((n : Nat) : Int))).toArray t frozen
      | o => o }) :
    ∃ (w : World) (tape : Tape) (i : Input), w.os = os ∧ (w.forCall tape i).Shaped Tryd.checked.prog ∧ i.vars = [] ∧ Input.okWide Tryd.checked.prog (w.forCall tape i) .any w.heap.size 6 i ∧
      (OpenSpec.ofChange Rows.fnLatticeSpec).preRow enc Tryd.checked.prog Tryd.f6 Rows.fnLatticeRow.domain false Rows.fnLatticeRow.laid (w.forCall tape i).memory i.args ∧ ({ modest := false } : Assume).holds Tryd.checked.prog (lone (Frame.enter Tryd.checked.prog 6 i.args .normal) [] (w.forCall tape i)) := by
  exact witness_row_at (enc := enc) (C := Tryd.checked) false w0 #[.slice none 0 0, .slice none 0 0] (by subst e; rfl) (by subst e; kernel_rfl) (by subst e; kernel_rfl) (by subst e; kernel_rfl)
    (OpenSpec.preRow_of_cond (x := ([.nil, .nil], [], [])) 8 (by subst e; kernel_rfl) (by subst e; kernel_rfl) (fun k hk => by cases hk) (by subst e; kernel_rfl) (laidMet_of_run' 8 (by subst e; kernel_rfl) (by subst e; kernel_rfl)))

set_option maxRecDepth 100000 in
theorem liftedL (os : Os) (started : os.Started) (H : Type) (enc : TypeId × Value → H) (F : Stop.Interp) :
    ReturnsInHanded {} Tryd.checked os 6 .any ((OpenSpec.ofChange Rows.fnLatticeSpec).preRow enc Tryd.prog Tryd.f6 Rows.fnLatticeRow.domain false Rows.fnLatticeRow.laid) (((OpenSpec.ofChange Rows.fnLatticeSpec).at F).post enc Tryd.prog Tryd.f6 false true false false) := by
  refine returnsInHanded_of_row (C := Tryd.checked) (s := OpenSpec.ofChange Rows.fnLatticeSpec) knobs started (by kernel_rfl) Tryd.func6 (witnessL os enc _ rfl) ?_
  intro W base args ds gs before hval hW _ _ _ hL _ _
  exact contractL H enc W base args ds gs before hval hW hL

theorem saidL : Rows.FnLatticeSaid :=
  OpenClaim.holds_of_cond 6 Tryd.f6 rfl rfl rfl rfl rfl rfl rfl ⟨rfl, rfl, rfl, rfl, rfl⟩ rfl rfl rfl rfl rfl (by kernel_rfl) Tryd.func6 (by kernel_rfl)
    (of_decide_eq_true (by kernel_rfl)) (by unfold Func.isWrapper; first | (rw [if_pos (by decide +kernel)]; kernel_rfl) | (rw [if_neg (by decide +kernel)]; exact ⟨rfl, rfl⟩))
    (fun os started H enc _ F => by rw [OpenClaim.pre_eq_preRow]; exact liftedL os started H enc F)

theorem plainL (f : FuncId) (fn : Func) (hf : Tryd.pinned.checked.prog.funcNamed "loop.example/s0011/laws.FnLattice" = some f) (hfn : Tryd.pinned.checked.prog.funcs[f]? = some fn) :
    Rows.fnLatticeCard.stood.looks = Tryd.pinned.checked.prog.looks [] ∧ ∀ (j : Nat) t, fn.params[j]? = some t → Tryd.pinned.checked.prog.wantsStandIn t = false := by
  obtain rfl : f = 6 := Option.some.inj ((show Tryd.prog.funcNamed "loop.example/s0011/laws.FnLattice" = some 6 by kernel_rfl).symm.trans hf) |>.symm
  obtain rfl : fn = Tryd.f6 := (Option.some.inj (Tryd.func6.symm.trans hfn)).symm
  refine ⟨by kernel_rfl, fun j t ht => ?_⟩
  rw [Tryd.params6] at ht
  obtain rfl : t = 50 := by simpa using Array.mem_of_getElem? ht
  exact (show Tryd.prog.wantsStandIn 50 = false by kernel_rfl)

theorem cardL : Rows.FnLatticeCardSaid :=
  Claim7.holds_tied_plain_at .later [] _ _ _ _ saidL (fun _ h => by cases h) (by kernel_rfl) (fun _ h => by cases h) fnLattice_row_tie rfl ⟨rfl, rfl⟩ (by kernel_rfl) rfl plainL (by kernel_rfl)
end Go.Proofs.YtnmpkdmflijhpaaDoor
