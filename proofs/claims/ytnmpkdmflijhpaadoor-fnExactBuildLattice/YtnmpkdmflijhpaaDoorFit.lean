/- impl.tablesFit, impl.readAbove: what ValidLattice reads out of a lattice that it is given. -/
import Derived.Test.YtnmpkdmflijhpaaDoorArr
import Derived.Test.YtnmpkdmflijhpaaDoorSpec1
namespace Go.Proofs.YtnmpkdmflijhpaaDoor
open Go Go.RowKit

theorem blk1 (w : World) (o2 o3 : Obj) (c : Array Value) (t : TypeId) : Blk (((w.alloc (.cells c t)).alloc o2).alloc o3) w.heap.size t c.toList := ((Blk.new w t c).alloc o2).alloc o3
theorem blk3 (w : World) (o1 o2 : Obj) (c : Array Value) (g : Nat → Nat) (h : c.toList = us g) : Blk (((w.alloc o1).alloc o2).alloc (.cells c 75)) (w.heap.size + 1 + 1) 75 (us g) := by
  rw [← h]; simpa using Blk.new ((w.alloc o1).alloc o2) 75 c
theorem blk2 (w : World) (o1 o3 : Obj) (c : Array Value) (g : Nat → Nat) (h : c.toList = us g) : Blk (((w.alloc o1).alloc (.cells c 75)).alloc o3) (w.heap.size + 1) 75 (us g) := by
  rw [← h]; simpa using (Blk.new (w.alloc o1) 75 c).alloc o3
theorem below3 (w : World) (o1 o2 o3 : Obj) : Below w.heap.size w (((w.alloc o1).alloc o2).alloc o3) := (((Below.refl _ w).alloc (Nat.le_refl _) o1).alloc (by simp) o2).alloc (by simp; omega) o3

/-- The sets that a relation on labels gives. -/
def IsRel (g : Nat → Nat) (R : Nat → Nat → Bool) : Prop := ∀ a, a < 32 → g a < 4294967296 ∧ ∀ b, (g a).testBit b = R a b
theorem pow_bit (b i : Nat) : (2 ^ b).testBit i = decide (b = i) := by rw [Nat.testBit_two_pow]
theorem IsRel.add {g : Nat → Nat} {R : Nat → Nat → Bool} (h : IsRel g R) {x y : Nat} (hx : x < 32) (hy : y < 32) :
    IsRel (fun j => if j = x then g x ||| 2 ^ y else g j) (fun a b => R a b || (decide (a = x) && decide (b = y))) := fun a ha => by
  by_cases e : a = x
  · subst e
    simp only [if_true]
    refine ⟨or_lt (h a ha).1 (two_lt hy), fun b => ?_⟩
    rw [Nat.testBit_or, (h a ha).2 b, pow_bit]
    cases R a b <;> simp [eq_comm]
  · simp only [if_neg e]
    refine ⟨(h a ha).1, fun b => ?_⟩
    rw [(h a ha).2 b]; simp [e]
theorem IsRel.congr {g : Nat → Nat} {R R' : Nat → Nat → Bool} (h : IsRel g R) (hR : ∀ a b, a < 32 → R a b = R' a b) : IsRel g R' := fun a ha => ⟨(h a ha).1, fun b => ((h a ha).2 b).trans (hR a b ha)⟩

/-- The part of a table that has been read. -/
def part (f : Nat → Bool) (n i : Nat) : Nat → Nat → Bool := fun a b => decide (b < n) && decide (a * n + b < i) && f (a * n + b)
theorem part_skip {f : Nat → Bool} {n i : Nat} (hf : f i = false) (a b : Nat) : part f n (i + 1) a b = part f n i a b := by
  unfold part
  by_cases e : a * n + b = i
  · rw [e, hf]; simp
  · rw [show decide (a * n + b < i + 1) = decide (a * n + b < i) by simp; omega]
theorem part_take {f : Nat → Bool} {n i : Nat} (h1 : 1 ≤ n) (hf : f i = true) (a b : Nat) : (part f n i a b || (decide (a = i / n) && decide (b = i % n))) = part f n (i + 1) a b := by
  unfold part
  have hd := Nat.div_add_mod i n
  have hm := Nat.mod_lt i (show n > 0 by omega)
  by_cases hb : b < n
  · by_cases e : a * n + b = i
    · have ha : a = i / n := by rw [← e, Nat.add_comm, Nat.add_mul_div_right _ _ (by omega), Nat.div_eq_of_lt hb]; omega
      have hb' : b = i % n := by rw [← e, Nat.add_comm, Nat.add_mul_mod_self_right, Nat.mod_eq_of_lt hb]
      rw [← ha, ← hb', e, hf]; simp [hb]
    · have : ¬ (a = i / n ∧ b = i % n) := fun ⟨x, y⟩ => e (by rw [x, y, Nat.mul_comm]; exact hd)
      have h2 : (decide (a = i / n) && decide (b = i % n)) = false := by
        rw [Bool.and_eq_false_iff]; simp; omega
      rw [h2, Bool.or_false, show decide (a * n + b < i + 1) = decide (a * n + b < i) by simp; omega]
  · have : ¬ b = i % n := by omega
    simp [hb, this]

set_option maxRecDepth 100000 in
set_option maxHeartbeats 1000000 in
theorem readAbove_any (n : Nat) (bot top : Int) (a1 a2 a3 : Option Addr) (n1 n2 n3 c1 c2 c3 : Nat) (f : Nat → Bool) (w : World) (h1 : 1 ≤ n) (h32 : n ≤ 32) (l1 : n1 = n * n) (ha : Bools w a1 n1 f) :
    Calls Tryd.prog 58 #[.agg #[.int .i64 n, .slice a1 n1 c1, .slice a2 n2 c2, .slice a3 n3 c3, .int .i64 bot, .int .i64 top]] w fun e w' =>
      ∃ g, e = .returned (.agg (us g).toArray) ∧ IsRel g (part f n (n * n)) ∧ Below w.heap.size w w' := by
  have HL := hide l1
  have q1 : n1 ≤ 1024 := by have := sq_le h32; omega
  clear l1
  go_enter Tryd.func58, Tryd.ntmps58
  go_wp2_with (refine wpList_store_sets rfl _ _ rfl (w.heap.size + 1 + 1) (fun _ => 0) (fun _ => 0) rfl rfl (blk3 _ _ _ _ _ rfl) ?_; intro w1 hb1 hg1 hs1; have hA := (blk1 _ _ _ _ _).grown hg1 (by simp; omega); have hR := (blk2 _ _ _ _ (fun _ => 0) rfl).grown hg1 (by simp); have hB := (below3 _ _ _ _).trans ((Below.refl w.heap.size _).grown hg1 (by simp; omega) (fun k e => by cases e; omega)); have x1 := hA.cell 1; simp only [List.getElem?_cons_succ, List.getElem?_cons_zero] at x1; replace hA := hide hA; replace hR := hide hR; replace hB := hide hB; replace hb1 := hide hb1; clear hg1 hs1)
  clear x1
  go_loopw [12] (fun i wr => ∃ (k : Nat) (g : Nat → Nat), k ≤ n1 ∧ i = .int .i64 k ∧ IsRel g (part f n k) ∧ Blk wr (w.heap.size + 1 + 1) 75 (us g) ∧ Blk wr (w.heap.size + 1) 75 (us fun _ => 0) ∧ Blk wr w.heap.size 29 [.int .i64 n, .slice a1 n1 c1, .slice a2 n2 c2, .slice a3 n3 c3, .int .i64 bot, .int .i64 top] ∧ Below w.heap.size w wr) (fun i _ => n1 - (intOf i).toNat)
  case atStart => exact ⟨0, fun _ => 0, Nat.zero_le _, rfl, fun a _ => ⟨by simp, fun b => by simp [part]⟩, unhide hb1, unhide hR, unhide hA, unhide hB⟩
  case round =>
    clear hb1 hR hA hB
    obtain ⟨k, g, hk, rfl, hrel, hO, hR, hA, hB⟩ := hrel
    have HREL := hide hrel; have HO := hide hO; have HR := hide hR; have HA := hide hA; have HB := hide hB
    by_cases hlt : k < n1
    · have x0 := hA.cell 0
      simp only [List.getElem?_cons_zero] at x0
      obtain ⟨b1, o1, rfl, hl1, hc1⟩ := ha k hlt
      have hc := (hB.cell (p := ⟨b1, o1 + k, none⟩) hl1).trans hc1
      clear hc1 hO hR hA hB hrel
      cases hf : f k
      · go_wp2
        go_roundw
        case rel => exact ⟨k + 1, g, by omega, by go_num, (unhide HREL).congr fun a b _ => (part_skip hf a b).symm, unhide HO, unhide HR, unhide HA, unhide HB⟩
        case measure => simp [intOf]; omega
      · obtain ⟨x, hx⟩ : ∃ x, k / n = x := ⟨_, rfl⟩
        obtain ⟨y, hy⟩ : ∃ y, k % n = y := ⟨_, rfl⟩
        have e1 : (k : Int) / n = (x : Int) := by rw [← hx]; simp
        have e2 : (k : Int) % n = (y : Int) := by rw [← hy]; simp
        have x32 : x < 32 := by
          have : k / n < n := (Nat.div_lt_iff_lt_mul (by omega)).2 (by have := unhide HL; omega)
          omega
        have y32 : y < 32 := by have := Nat.mod_lt k (show n > 0 by omega); omega
        have hgx := (unhide HREL x x32).1
        have cx := (unhide HO).cell x
        rw [us_get g x32] at cx
        have fx := (unhide HO).free x
        have sx := (unhide HO).lt
        have HS : Hid (IsRel (fun j => if j = x then g x ||| 2 ^ y else g j) (part f n (k + 1))) := ((unhide HREL).add x32 y32).congr fun a b _ => by rw [← hx, ← hy]; exact part_take h1 hf a b
        have y2 := two_lt y32
        have K1 : ∀ m o1, ((wr.drewN m).alloc o1).cell? ⟨w.heap.size + 1 + 1, x, none⟩ = some (.int .u32 (g x : Int)) := fun m o1 => ((((Below.refl wr.heap.size _).alloc (Nat.le_refl _) o1).cell (p := ⟨w.heap.size + 1 + 1, x, none⟩) sx)).trans cx
        have K4 : ∀ m o1 o2 o3 o4, (((((wr.drewN m).alloc o1).alloc o2).alloc o3).alloc o4).cell? ⟨w.heap.size + 1 + 1, x, none⟩ = some (.int .u32 (g x : Int)) := fun m o1 o2 o3 o4 => ((((((Below.refl wr.heap.size (wr.drewN m)).alloc (Nat.le_refl _) o1).alloc (by simp [World.drewN]) o2).alloc (by simp [World.drewN]; omega) o3).alloc (by simp [World.drewN]; omega) o4).cell (p := ⟨w.heap.size + 1 + 1, x, none⟩) sx).trans cx
        have F4 : ∀ m o1 o2 o3 o4, (((((wr.drewN m).alloc o1).alloc o2).alloc o3).alloc o4).frozen? ⟨w.heap.size + 1 + 1, x, none⟩ = false := fun m o1 o2 o3 o4 => ((((((Below.refl wr.heap.size (wr.drewN m)).alloc (Nat.le_refl _) o1).alloc (by simp [World.drewN]) o2).alloc (by simp [World.drewN]; omega) o3).alloc (by simp [World.drewN]; omega) o4).frozen (p := ⟨w.heap.size + 1 + 1, x, none⟩) sx).trans fx
        have B4 : Hid (∀ m o1 o2 o3 o4, Below wr.heap.size wr (((((wr.drewN m).alloc o1).alloc o2).alloc o3).alloc o4)) := fun m o1 o2 o3 o4 => ((((below_drewN' wr m).alloc (Nat.le_refl _) o1).alloc (by simp [World.drewN]) o2).alloc (by simp [World.drewN]; omega) o3).alloc (by simp [World.drewN]; omega) o4
        have cx' : (wr.drew).cell? ⟨w.heap.size + 1 + 1, x, none⟩ = some (.int .u32 (g x : Int)) := cx
        have x0i : (0 : Int) ≤ x := by omega
        have x1i : (x : Int) < 32 := by omega
        have CX := hide cx
        clear hx hy fx
        go_wp2
        go_quiet (fail)
        go_wp2_with fail
        go_region_with (first | (go_at_call 86; refine (one_any _ _ y32).mono ?_; rintro e w' ⟨rfl, rfl⟩) | (go_at_call 85; refine (union_any _ _ _ hgx y2).mono ?_; rintro e w' ⟨rfl, rfl⟩))
        all_goals
          go_wp2
          go_roundw
          case rel =>
            exact ⟨k + 1, _, by omega, by go_num, unhide HS, by rw [← us_set g _ x32]; exact ((unhide HO).mono (unhide B4 _ _ _ _ _) (unhide HO).lt).set x _, ((unhide HR).mono (unhide B4 _ _ _ _ _) (unhide HR).lt).other _ (by simp), ((unhide HA).mono (unhide B4 _ _ _ _ _) (unhide HA).lt).other _ (by simp; omega), ((unhide HB).trans ((unhide B4 _ _ _ _ _).mono (unhide HB).size)).setCell (by simp; omega) _⟩
          case measure => simp [intOf]; omega
    · obtain rfl : k = n1 := by omega
      have hrel' := hrel; rw [unhide HL] at hrel'
      have HREL' := hide hrel'
      clear hO hR hA hB hrel hrel'
      go_wp2_with (first | (refine wpList_load_sets rfl _ rfl (w.heap.size + 1 + 1) g rfl (unhide HO) ?_) | (refine wpList_store_sets rfl _ _ rfl (w.heap.size + 1) (fun _ => 0) g rfl rfl (unhide HR) ?_; intro w2 hb2 hg2 hs2; replace hb2 := hide hb2; replace hg2 := hide hg2))
      refine bodyPost_ret (results_cell_row rfl _ _ (w.heap.size + 1) 75 (us g).toArray (0, 0) _ rfl (unhide hb2) Tryd.underlying75 rfl (size_us g)) rfl ⟨g, rfl, unhide HREL', ?_⟩
      exact (unhide HB).trans ((Below.refl w.heap.size _).grown (unhide hg2) (unhide HB).size (fun k e => by cases e; omega))
end Go.Proofs.YtnmpkdmflijhpaaDoor
