/- The law FnExactBuildLattice. -/
import Derived.Test.YtnmpkdmflijhpaaDoorDich
import Derived.Test.YtnmpkdmflijhpaaDoorMarkL
import Derived.Test.YtnmpkdmflijhpaaDoorOrdE
import Derived.Deep.RegionHeld3
namespace Go.Proofs.YtnmpkdmflijhpaaDoor
open Go Go.RowKit

/-- What lies in memory while the law runs. -/
structure InvB (w : World) (N : Int) (a : Option Addr) (m c : Nat) (f g : Nat → Int) (b0 x0 g0 G : Nat) (xs zs ys : List Value) (W : World) : Prop where
  A : Blk W w.heap.size 24 [.int .i64 N, .slice a m c]
  B : Blk W b0 29 zs
  X : Blk W x0 34 [.int .i64 N, .slice (some ⟨G, 0, none⟩) m m]
  D : Blk W g0 29 ys
  P : Blk W G 93 xs
  Q : Pairs W (some ⟨G, 0, none⟩) m f g
  U : Below w.heap.size w W
theorem InvB.mono {w : World} {N : Int} {a : Option Addr} {m c : Nat} {f g : Nat → Int} {b0 x0 g0 G : Nat} {xs zs ys : List Value} {W W' : World} (h : InvB w N a m c f g b0 x0 g0 G xs zs ys W) (k : Below W.heap.size W W') : InvB w N a m c f g b0 x0 g0 G xs zs ys W' :=
  ⟨h.A.mono k h.A.lt, h.B.mono k h.B.lt, h.X.mono k h.X.lt, h.D.mono k h.D.lt, h.P.mono k h.P.lt, h.Q.mono k, h.U.trans (k.mono h.U.size)⟩
/-- What is left of it once the order was marked. -/
structure InvC (w : World) (N : Int) (a : Option Addr) (m c : Nat) (b0 g0 : Nat) (zs ys : List Value) (W : World) : Prop where
  A : Blk W w.heap.size 24 [.int .i64 N, .slice a m c]
  B : Blk W b0 29 zs
  D : Blk W g0 29 ys
  U : Below w.heap.size w W
theorem InvC.mono {w : World} {N : Int} {a : Option Addr} {m c : Nat} {b0 g0 : Nat} {zs ys : List Value} {W W' : World} (h : InvC w N a m c b0 g0 zs ys W) (k : Below W.heap.size W W') : InvC w N a m c b0 g0 zs ys W' :=
  ⟨h.A.mono k h.A.lt, h.B.mono k h.B.lt, h.D.mono k h.D.lt, h.U.trans (k.mono h.U.size)⟩
theorem InvB.mark {w : World} {N : Int} {a : Option Addr} {m c : Nat} {f g : Nat → Int} {b0 x0 g0 G : Nat} {xs zs ys : List Value} {W W' : World} (h : InvB w N a m c f g b0 x0 g0 G xs zs ys W) (h1 : w.heap.size ≠ G) (h2 : b0 ≠ G) (h3 : g0 ≠ G) (k : Below w.heap.size W W') (hk : ∀ b, b < W.heap.size → b ≠ G → W'.heap[b]? = W.heap[b]?) : InvC w N a m c b0 g0 zs ys W' :=
  ⟨(hk _ h.A.lt h1).trans h.A, (hk _ h.B.lt h2).trans h.B, (hk _ h.D.lt h3).trans h.D, h.U.trans k⟩
theorem InvC.mark {w : World} {N : Int} {a : Option Addr} {m c : Nat} {b0 g0 G1 G2 G3 : Nat} {zs ys : List Value} {W W' : World} (h : InvC w N a m c b0 g0 zs ys W) (h1 : w.heap.size ≠ G1 ∧ w.heap.size ≠ G2 ∧ w.heap.size ≠ G3) (h2 : b0 ≠ G1 ∧ b0 ≠ G2 ∧ b0 ≠ G3) (h3 : g0 ≠ G1 ∧ g0 ≠ G2 ∧ g0 ≠ G3) (k : Below w.heap.size W W') (hk : ∀ b, b < W.heap.size → b ≠ G1 → b ≠ G2 → b ≠ G3 → W'.heap[b]? = W.heap[b]?) : InvC w N a m c b0 g0 zs ys W' :=
  ⟨(hk _ h.A.lt h1.1 h1.2.1 h1.2.2).trans h.A, (hk _ h.B.lt h2.1 h2.2.1 h2.2.2).trans h.B, (hk _ h.D.lt h3.1 h3.2.1 h3.2.2).trans h.D, h.U.trans k⟩
/-- The lattice that the program gave. -/
structure Lat3 (w3 : World) (b0 G1 G2 G3 s : Nat) (F : Nat → Bool) (J M : Nat → Int) (W : World) : Prop where
  V : Below b0 w3 W
  size : b0 ≤ W.heap.size
  b1 : Blk W G1 4 (bs s F)
  b2 : Blk W G2 3 (is s J)
  b3 : Blk W G3 3 (is s M)
theorem Lat3.mono {w3 : World} {b0 G1 G2 G3 s : Nat} {F : Nat → Bool} {J M : Nat → Int} {W W' : World} (h : Lat3 w3 b0 G1 G2 G3 s F J M W) (k : Below W.heap.size W W') : Lat3 w3 b0 G1 G2 G3 s F J M W' :=
  ⟨h.V.trans (k.mono h.size), Nat.le_trans h.size k.size, h.b1.mono k h.b1.lt, h.b2.mono k h.b2.lt, h.b3.mono k h.b3.lt⟩
theorem Lat3.mark {w3 : World} {b0 G1 G2 G3 G s : Nat} {F : Nat → Bool} {J M : Nat → Int} {W W' : World} (h : Lat3 w3 b0 G1 G2 G3 s F J M W) (h1 : G1 ≠ G) (h2 : G2 ≠ G) (h3 : G3 ≠ G) (k : Below b0 W W') (hk : ∀ b, b < W.heap.size → b ≠ G → W'.heap[b]? = W.heap[b]?) : Lat3 w3 b0 G1 G2 G3 s F J M W' :=
  ⟨h.V.trans k, Nat.le_trans h.size k.size, (hk _ h.b1.lt h1).trans h.b1, (hk _ h.b2.lt h2).trans h.b2, (hk _ h.b3.lt h3).trans h.b3⟩
def FourO (w' : World) (b x G : Nat) (N : Int) (a : Option Addr) (m c : Nat) : Prop := w'.cell? ⟨b, 0, none⟩ = some (.int .i64 N) ∧ w'.cell? ⟨b, 1, none⟩ = some (.slice a m c) ∧ w'.cell? ⟨x, 0, none⟩ = some (.int .i64 N) ∧ w'.cell? ⟨x, 1, none⟩ = some (.slice (some ⟨G, 0, none⟩) m m)
theorem InvB.four {w : World} {N : Int} {a : Option Addr} {m c : Nat} {f g : Nat → Int} {b0 x0 g0 G : Nat} {xs zs ys : List Value} {W : World} (h : InvB w N a m c f g b0 x0 g0 G xs zs ys W) : FourO W w.heap.size x0 G N a m c := ⟨h.A.cell 0, h.A.cell 1, h.X.cell 0, h.X.cell 1⟩
theorem sixB {w : World} {b : Nat} {t : TypeId} {v0 v1 v2 v3 v4 v5 : Value} (h : Blk w b t [v0, v1, v2, v3, v4, v5]) :
    w.cell? ⟨b, 0, none⟩ = some v0 ∧ w.cell? ⟨b, 1, none⟩ = some v1 ∧ w.cell? ⟨b, 2, none⟩ = some v2 ∧ w.cell? ⟨b, 3, none⟩ = some v3 ∧ w.cell? ⟨b, 4, none⟩ = some v4 ∧ w.cell? ⟨b, 5, none⟩ = some v5 := ⟨h.cell 0, h.cell 1, h.cell 2, h.cell 3, h.cell 4, h.cell 5⟩
theorem no_bools (w : World) (f : Nat → Bool) : Bools w none 0 f := fun k hk => absurd hk (Nat.not_lt_zero k)
theorem no_ints (w : World) (f : Nat → Int) : Ints w none 0 f := fun k hk => absurd hk (Nat.not_lt_zero k)
theorem eqLattice_zero (w : World) : Calls Tryd.prog 13 #[.agg #[.int .i64 0, .slice none 0 0, .slice none 0 0, .slice none 0 0, .int .i64 0, .int .i64 0], .agg #[.int .i64 0, .slice none 0 0, .slice none 0 0, .slice none 0 0, .int .i64 0, .int .i64 0]] w fun e w' => e = .returned (.bool true) ∧ Below w.heap.size w w' :=
  eqLattice_true 0 0 0 none none none none none none 0 0 0 0 0 0 0 0 0 (fun _ => true) (fun _ => 0) (fun _ => 0) w (by omega) (by omega) (by omega) (no_bools _ _) (no_ints _ _) (no_ints _ _) (no_bools _ _) (no_ints _ _) (no_ints _ _)

set_option maxRecDepth 100000 in
set_option maxHeartbeats 4000000 in
theorem lawBuild_zero (N : Int) (a : Option Addr) (m c : Nat) (f g : Nat → Int) (w : World) (hm : m ≤ 1048576) (ha : Pairs w a m f g) (ht : Tab w) (code : Int) (hS : SpecZ N m f g code) (hI : ImplZ N m f g code) :
    Calls Tryd.prog 3 #[.agg #[.int .i64 N, .slice a m c]] w fun e w' => e = .returned (.bool true) ∧ Below w.heap.size w w' := by
  unfold SpecZ at hS; unfold ImplZ at hI; unfold zeroL at hS hI
  have B0 := Blk.new w 24 #[.int .i64 N, .slice a m c]
  have BW : Below w.heap.size w (w.alloc (.cells #[.int .i64 N, .slice a m c] 24)) := (Below.refl _ _).alloc (Nat.le_refl _) _
  have H0 := hide B0; have HW := hide BW; have HS := hide hS; have HI := hide hI; clear B0 BW hS hI
  go_enter Tryd.func3, Tryd.ntmps3
  go_wp2_with fail
  refine (szOrder_any N a m c _ (by omega)).mono ?_
  rintro e w1 ⟨rfl, hb1⟩
  rw [if_pos hm]
  replace H0 := hide ((unhide H0).mono hb1 (unhide H0).lt); replace HW := hide ((unhide HW).trans (hb1.mono (unhide HW).size)); clear hb1
  obtain ⟨⟨z0, z1⟩, -⟩ := pairO (unhide H0)
  have hneg : ¬ (1048576 : Int) - m < 0 := by omega
  go_wp2_with fail
  refine (toOrder_any N a m c f g _ hm (ha.mono (unhide HW))).mono ?_
  rintro e w2 ⟨G0, rfl, k2, -, -, hb2⟩
  replace H0 := hide ((unhide H0).mono hb2 (unhide H0).lt); replace HW := hide ((unhide HW).trans (hb2.mono (unhide HW).size)); clear hb2 z0 z1 hneg
  go_wp2_with fail
  refine (unhide HS _ _ _ k2).mono ?_
  rintro e w3 ⟨rfl, hb3⟩
  replace H0 := hide ((unhide H0).mono hb3 (unhide H0).lt); replace HW := hide ((unhide HW).trans (hb3.mono (unhide HW).size)); clear hb3 k2
  have bX := Blk.new w3 29 #[.int .i64 0, .slice none 0 0, .slice none 0 0, .slice none 0 0, .int .i64 0, .int .i64 0]
  have bw : Below w3.heap.size w3 (w3.alloc (.cells #[.int .i64 0, .slice none 0 0, .slice none 0 0, .slice none 0 0, .int .i64 0, .int .i64 0] 29)) := (Below.refl _ _).alloc (Nat.le_refl _) _
  replace H0 := hide ((unhide H0).mono bw (unhide H0).lt); replace HW := hide ((unhide HW).trans (bw.mono (unhide HW).size)); have HX := hide bX; clear bw bX
  obtain ⟨⟨z0, z1⟩, -⟩ := pairO (unhide H0)
  go_wp2_with fail
  refine (toOrder_any N a m c f g _ hm (ha.mono (unhide HW))).mono ?_
  rintro e w4 ⟨G, rfl, k4, ⟨xs, p4, hxs⟩, hG4, hb4⟩
  have hG3 : w3.heap.size < G := by simp at hG4; omega
  have hG4' : G < w4.heap.size := p4.lt
  have hA3 : w.heap.size < w3.heap.size + 1 := by simpa using (unhide H0).lt
  replace H0 := hide ((unhide H0).mono hb4 (unhide H0).lt); replace HW := hide ((unhide HW).trans (hb4.mono (unhide HW).size)); replace HX := hide ((unhide HX).mono hb4 (unhide HX).lt); clear hb4 z0 z1 hG4
  have bX := Blk.new w4 34 #[.int .i64 N, .slice (some ⟨G, 0, none⟩) m m]
  have bw : Below w4.heap.size w4 (w4.alloc (.cells #[.int .i64 N, .slice (some ⟨G, 0, none⟩) m m] 34)) := (Below.refl _ _).alloc (Nat.le_refl _) _
  replace H0 := hide ((unhide H0).mono bw (unhide H0).lt); replace HW := hide ((unhide HW).trans (bw.mono (unhide HW).size)); replace HX := hide ((unhide HX).mono bw (unhide HX).lt); have HY := hide bX
  have HQ := hide (k4.mono bw); have HP := hide (p4.mono bw p4.lt); clear bw bX k4 p4
  go_wp2_with fail
  refine (unhide HI _ _ _ (unhide HQ) (ht.mono (unhide HW))).mono ?_
  rintro e w5 ⟨rfl, hb5⟩
  have hG5 : w4.heap.size < w5.heap.size := by have := hb5.size; simp at this; omega
  have bX := Blk.new w5 29 #[.int .i64 0, .slice none 0 0, .slice none 0 0, .slice none 0 0, .int .i64 0, .int .i64 0]
  have bw : Below w5.heap.size w5 (w5.alloc (.cells #[.int .i64 0, .slice none 0 0, .slice none 0 0, .slice none 0 0, .int .i64 0, .int .i64 0] 29)) := (Below.refl _ _).alloc (Nat.le_refl _) _
  have bb := hb5.trans (bw.mono hb5.size)
  have INV : InvB w N a m c f g w3.heap.size w4.heap.size w5.heap.size G xs _ _ _ := ⟨(unhide H0).mono bb (unhide H0).lt, (unhide HX).mono bb (unhide HX).lt, (unhide HY).mono bb (unhide HY).lt, bX, (unhide HP).mono bb (unhide HP).lt, (unhide HQ).mono bb, (unhide HW).trans (bb.mono (unhide HW).size)⟩
  obtain ⟨b0, hb0⟩ : ∃ b, w3.heap.size = b := ⟨_, rfl⟩
  obtain ⟨x0, hx0⟩ : ∃ b, w4.heap.size = b := ⟨_, rfl⟩
  obtain ⟨g0, hg0⟩ : ∃ b, w5.heap.size = b := ⟨_, rfl⟩
  have HI5 := hide INV
  rw [hb0, hx0, hg0] at HI5
  rw [hb0] at hG3 hA3; rw [hx0] at hG4' hG5; rw [hg0] at hG5
  clear hb5 bX bw bb INV H0 HW HX HY HQ HP HS
  have S0 := hide (sixB (unhide HI5).B); have S1 := hide (sixB (unhide HI5).D)
  obtain ⟨z0, z1, z2, z3, z4, z5⟩ := unhide S0
  obtain ⟨y0, y1, y2, y3, y4, y5⟩ := unhide S1
  clear S0 S1
  go_wp2_with fail
  refine (eqLattice_zero _).mono ?_
  rintro e w6 ⟨rfl, hb6⟩
  have HI6 := hide ((unhide HI5).mono hb6)
  clear hb6 HI5 z0 z1 z2 z3 z4 z5 y0 y1 y2 y3 y4 y5
  have S0 := hide (unhide HI6).four
  go_wp2_with fail
  go_region_held3 (fun w' => w'.cell? ⟨w.heap.size, 0, none⟩ = some (.int .i64 N) ∧ w'.cell? ⟨w.heap.size, 1, none⟩ = some (.slice a m c) ∧ w'.cell? ⟨x0, 0, none⟩ = some (.int .i64 N) ∧ w'.cell? ⟨x0, 1, none⟩ = some (.slice (some ⟨G, 0, none⟩) m m)) (first | exact unhide S0 | exact unhide S2 | exact unhide S3) (first | (go_at_call 11; refine (toOrder_any N a m c f g _ hm (ha.mono (unhide HI6).U.drew)).mono ?_; rintro e w7 ⟨j1, rfl, q1, -, -, hb7⟩; replace hb7 : Below w6.heap.size w6 w7 := below_of_drew hb7; have HI7 := hide ((unhide HI6).mono hb7); have S2 := hide (unhide HI7).four; replace q1 := hide q1; clear hb7) | (go_at_call 14; refine (eqOrder_true N _ _ f g m _ _ _ hm (unhide HI7).Q (unhide q1)).mono ?_; rintro e w8 ⟨rfl, hb8⟩; have HI8 := hide ((unhide HI7).mono hb8); have S3 := hide (unhide HI8).four; clear hb8))
  clear S0 S2 S3 HI6 HI7 q1
  obtain ⟨z0, z1, z2, z3⟩ := (unhide HI8).four
  go_wp2_with fail
  refine (markOrder_any N G m xs _ hm (unhide HI8).P hxs w.heap.size (by omega)).mono ?_
  rintro e w9 ⟨k, rfl, hk, hb9, hc9⟩
  have HI9 := hide ((unhide HI8).mark (by omega) (by omega) (by omega) hb9 hc9)
  clear z0 z1 z2 z3 HI8 hb9 hc9
  have hk0 : ¬ (k : Int) < 0 := by omega
  obtain ⟨z0, z1, z2, z3, z4, z5⟩ := sixB (unhide HI9).B
  obtain ⟨y0, y1, y2, y3, y4, y5⟩ := sixB (unhide HI9).D
  go_wp2_with fail
  refine (eqLattice_zero _).mono ?_
  rintro e w10 ⟨rfl, hb10⟩
  have HI10 := hide ((unhide HI9).mono hb10)
  clear hb10 HI9 z0 z1 z2 z3 z4 z5 y0 y1 y2 y3 y4 y5
  obtain ⟨y0, y1, y2, y3, y4, y5⟩ := sixB (unhide HI10).D
  go_wp2_with fail
  refine (markLattice_zero _).mono ?_
  rintro e w11 ⟨rfl, hb11⟩
  have HI11 := hide ((unhide HI10).mono hb11)
  clear hb11 HI10 y0 y1 y2 y3 y4 y5
  obtain ⟨y0, y1, y2, y3, y4, y5⟩ := sixB (unhide HI11).D
  go_wp2_with fail
  refine (heldLattice_zero _).mono ?_
  rintro e w12 ⟨rfl, hb12⟩
  have HI12 := hide ((unhide HI11).mono hb12)
  clear hb12 HI11 y0 y1 y2 y3 y4 y5
  obtain ⟨⟨y0, y1⟩, -⟩ := pairO (unhide HI12).A
  go_wp2_with fail
  refine (toOrder_any N a m c f g _ hm (ha.mono (unhide HI12).U)).mono ?_
  rintro e w13 ⟨G5, rfl, k13, -, -, hb13⟩
  have HI13 := hide ((unhide HI12).mono hb13)
  clear hb13 HI12 y0 y1
  go_wp2_with fail
  refine (unhide HI _ _ _ k13 (ht.mono (unhide HI13).U)).mono ?_
  rintro e w14 ⟨rfl, hb14⟩
  have bX := Blk.new w14 29 #[.int .i64 0, .slice none 0 0, .slice none 0 0, .slice none 0 0, .int .i64 0, .int .i64 0]
  have bw : Below w14.heap.size w14 (w14.alloc (.cells #[.int .i64 0, .slice none 0 0, .slice none 0 0, .slice none 0 0, .int .i64 0, .int .i64 0] 29)) := (Below.refl _ _).alloc (Nat.le_refl _) _
  have HI14 := hide (((unhide HI13).mono hb14).mono bw)
  obtain ⟨z0, z1, z2, z3, z4, z5⟩ := sixB (unhide HI14).B
  obtain ⟨y0, y1, y2, y3, y4, y5⟩ := sixB bX
  clear hb14 HI13 bX bw k13
  go_wp2_with fail
  refine (eqLattice_zero _).mono ?_
  rintro e w15 ⟨rfl, hb15⟩
  have HI15 := hide ((unhide HI14).mono hb15)
  clear hb15 HI14 z0 z1 z2 z3 z4 z5 y0 y1 y2 y3 y4 y5
  go_wp2
  go_ret
  exact ⟨rfl, (unhide HI15).U⟩
set_option maxRecDepth 100000 in
set_option maxHeartbeats 4000000 in
theorem lawBuild_full (N : Int) (a : Option Addr) (m c : Nat) (f g : Nat → Int) (w : World) (hm : m ≤ 1048576) (ha : Pairs w a m f g) (ht : Tab w) (s : Nat) (F : Nat → Bool) (J M : Nat → Int) (bot top : Int) (hs : s ≤ 1024) (hS : SpecF N m f g s F J M bot top) (hI : ImplF N m f g s F J M bot top) :
    Calls Tryd.prog 3 #[.agg #[.int .i64 N, .slice a m c]] w fun e w' => e = .returned (.bool true) ∧ Below w.heap.size w w' := by
  unfold SpecF at hS; unfold ImplF at hI
  have B0 := Blk.new w 24 #[.int .i64 N, .slice a m c]
  have BW : Below w.heap.size w (w.alloc (.cells #[.int .i64 N, .slice a m c] 24)) := (Below.refl _ _).alloc (Nat.le_refl _) _
  have H0 := hide B0; have HW := hide BW; have HS := hide hS; have HI := hide hI; clear B0 BW hS hI
  go_enter Tryd.func3, Tryd.ntmps3
  go_wp2_with fail
  refine (szOrder_any N a m c _ (by omega)).mono ?_
  rintro e w1 ⟨rfl, hb1⟩
  rw [if_pos hm]
  replace H0 := hide ((unhide H0).mono hb1 (unhide H0).lt); replace HW := hide ((unhide HW).trans (hb1.mono (unhide HW).size)); clear hb1
  obtain ⟨⟨z0, z1⟩, -⟩ := pairO (unhide H0)
  have hneg : ¬ (1048576 : Int) - m < 0 := by omega
  go_wp2_with fail
  refine (toOrder_any N a m c f g _ hm (ha.mono (unhide HW))).mono ?_
  rintro e w2 ⟨G0, rfl, k2, -, -, hb2⟩
  replace H0 := hide ((unhide H0).mono hb2 (unhide H0).lt); replace HW := hide ((unhide HW).trans (hb2.mono (unhide HW).size)); clear hb2 z0 z1 hneg
  go_wp2_with fail
  refine (unhide HS _ _ _ k2).mono ?_
  rintro e w3 ⟨a1, a2, a3, c1, c2, c3, rfl, r1, r2, r3, hb3⟩
  have R1 := hide r1; have R2 := hide r2; have R3 := hide r3; clear r1 r2 r3
  replace H0 := hide ((unhide H0).mono hb3 (unhide H0).lt); replace HW := hide ((unhide HW).trans (hb3.mono (unhide HW).size)); clear hb3 k2
  have bX := Blk.new w3 29 #[.int .i64 N, .slice a1 s c1, .slice a2 s c2, .slice a3 s c3, .int .i64 bot, .int .i64 top]
  have bw : Below w3.heap.size w3 (w3.alloc (.cells #[.int .i64 N, .slice a1 s c1, .slice a2 s c2, .slice a3 s c3, .int .i64 bot, .int .i64 top] 29)) := (Below.refl _ _).alloc (Nat.le_refl _) _
  replace H0 := hide ((unhide H0).mono bw (unhide H0).lt); replace HW := hide ((unhide HW).trans (bw.mono (unhide HW).size)); have HX := hide bX; have HV := hide bw; clear bw bX
  obtain ⟨⟨z0, z1⟩, -⟩ := pairO (unhide H0)
  go_wp2_with fail
  refine (toOrder_any N a m c f g _ hm (ha.mono (unhide HW))).mono ?_
  rintro e w4 ⟨G, rfl, k4, ⟨xs, p4, hxs⟩, hG4, hb4⟩
  have hG3 : w3.heap.size < G := by simp at hG4; omega
  have hG4' : G < w4.heap.size := p4.lt
  have hA3 : w.heap.size < w3.heap.size + 1 := by simpa using (unhide H0).lt
  replace H0 := hide ((unhide H0).mono hb4 (unhide H0).lt); replace HW := hide ((unhide HW).trans (hb4.mono (unhide HW).size)); replace HX := hide ((unhide HX).mono hb4 (unhide HX).lt); replace HV := hide ((unhide HV).trans (hb4.mono (by simp))); clear hb4 z0 z1 hG4
  have bX := Blk.new w4 34 #[.int .i64 N, .slice (some ⟨G, 0, none⟩) m m]
  have bw : Below w4.heap.size w4 (w4.alloc (.cells #[.int .i64 N, .slice (some ⟨G, 0, none⟩) m m] 34)) := (Below.refl _ _).alloc (Nat.le_refl _) _
  replace H0 := hide ((unhide H0).mono bw (unhide H0).lt); replace HW := hide ((unhide HW).trans (bw.mono (unhide HW).size)); replace HX := hide ((unhide HX).mono bw (unhide HX).lt); replace HV := hide ((unhide HV).trans (bw.mono (by omega))); have HY := hide bX
  have HQ := hide (k4.mono bw); have HP := hide (p4.mono bw p4.lt); clear bw bX k4 p4
  go_wp2_with fail
  refine (unhide HI _ _ _ (unhide HQ) (ht.mono (unhide HW))).mono ?_
  rintro e w5 ⟨G1, G2, G3, rfl, l1, l2, l3, m1, m2, m3, n1, n2, n3, hb5⟩
  have hm1 : w4.heap.size < G1 := by simp at m1; omega
  have hm2 : w4.heap.size < G2 := by simp at m2; omega
  have hm3 : w4.heap.size < G3 := by simp at m3; omega
  have hl1 := l1.lt; have hl2 := l2.lt; have hl3 := l3.lt
  clear m1 m2 m3
  have hG5 : w4.heap.size < w5.heap.size := by have := hb5.size; simp at this; omega
  have bX := Blk.new w5 29 #[.int .i64 N, .slice (some ⟨G1, 0, none⟩) s s, .slice (some ⟨G2, 0, none⟩) s s, .slice (some ⟨G3, 0, none⟩) s s, .int .i64 bot, .int .i64 top]
  have bw : Below w5.heap.size w5 (w5.alloc (.cells #[.int .i64 N, .slice (some ⟨G1, 0, none⟩) s s, .slice (some ⟨G2, 0, none⟩) s s, .slice (some ⟨G3, 0, none⟩) s s, .int .i64 bot, .int .i64 top] 29)) := (Below.refl _ _).alloc (Nat.le_refl _) _
  have bb := hb5.trans (bw.mono hb5.size)
  have INV : InvB w N a m c f g w3.heap.size w4.heap.size w5.heap.size G xs _ _ _ := ⟨(unhide H0).mono bb (unhide H0).lt, (unhide HX).mono bb (unhide HX).lt, (unhide HY).mono bb (unhide HY).lt, bX, (unhide HP).mono bb (unhide HP).lt, (unhide HQ).mono bb, (unhide HW).trans (bb.mono (unhide HW).size)⟩
  have LAT : Lat3 w3 w3.heap.size G1 G2 G3 s F J M _ := ⟨(unhide HV).trans (bb.mono (by simp; omega)), by simp; omega, l1.mono bw l1.lt, l2.mono bw l2.lt, l3.mono bw l3.lt⟩
  have RB : ∀ W, Below w3.heap.size w3 W → Bools W a1 s F ∧ Ints W a2 s J ∧ Ints W a3 s M := fun W h => ⟨(unhide R1).mono h, (unhide R2).mono h, (unhide R3).mono h⟩
  have HL5 := hide LAT; have HR := hide RB
  obtain ⟨b0, hb0⟩ : ∃ b, w3.heap.size = b := ⟨_, rfl⟩
  obtain ⟨x0, hx0⟩ : ∃ b, w4.heap.size = b := ⟨_, rfl⟩
  obtain ⟨g0, hg0⟩ : ∃ b, w5.heap.size = b := ⟨_, rfl⟩
  have HI5 := hide INV
  rw [hb0, hx0, hg0] at HI5; rw [hb0] at HL5 HR; rw [hx0] at hm1 hm2 hm3; rw [hg0] at hl1 hl2 hl3
  rw [hb0] at hG3 hA3; rw [hx0] at hG4' hG5; rw [hg0] at hG5
  clear hb5 bX bw bb INV LAT RB l1 l2 l3 R1 R2 R3 HV H0 HW HX HY HQ HP HS
  have S0 := hide (sixB (unhide HI5).B); have S1 := hide (sixB (unhide HI5).D)
  obtain ⟨z0, z1, z2, z3, z4, z5⟩ := unhide S0
  obtain ⟨y0, y1, y2, y3, y4, y5⟩ := unhide S1
  clear S0 S1
  go_wp2_with fail
  refine (eqLattice_true N bot top _ _ _ _ _ _ s s s _ _ _ _ _ _ F J M _ (by omega) (by omega) (by omega) (unhide HL5).b1.bools (unhide HL5).b2.ints (unhide HL5).b3.ints (unhide HR _ (unhide HL5).V).1 (unhide HR _ (unhide HL5).V).2.1 (unhide HR _ (unhide HL5).V).2.2).mono ?_
  rintro e w6 ⟨rfl, hb6⟩
  have HI6 := hide ((unhide HI5).mono hb6); have HL6 := hide ((unhide HL5).mono hb6)
  clear hb6 HI5 HL5 z0 z1 z2 z3 z4 z5 y0 y1 y2 y3 y4 y5
  have S0 := hide (unhide HI6).four
  go_wp2_with fail
  go_region_held3 (fun w' => w'.cell? ⟨w.heap.size, 0, none⟩ = some (.int .i64 N) ∧ w'.cell? ⟨w.heap.size, 1, none⟩ = some (.slice a m c) ∧ w'.cell? ⟨x0, 0, none⟩ = some (.int .i64 N) ∧ w'.cell? ⟨x0, 1, none⟩ = some (.slice (some ⟨G, 0, none⟩) m m)) (first | exact unhide S0 | exact unhide S2 | exact unhide S3) (first | (go_at_call 11; refine (toOrder_any N a m c f g _ hm (ha.mono (unhide HI6).U.drew)).mono ?_; rintro e w7 ⟨j1, rfl, q1, -, -, hb7⟩; replace hb7 : Below w6.heap.size w6 w7 := below_of_drew hb7; have HI7 := hide ((unhide HI6).mono hb7); have HL7 := hide ((unhide HL6).mono hb7); have S2 := hide (unhide HI7).four; replace q1 := hide q1; clear hb7) | (go_at_call 14; refine (eqOrder_true N _ _ f g m _ _ _ hm (unhide HI7).Q (unhide q1)).mono ?_; rintro e w8 ⟨rfl, hb8⟩; have HI8 := hide ((unhide HI7).mono hb8); have HL8 := hide ((unhide HL7).mono hb8); have S3 := hide (unhide HI8).four; clear hb8))
  clear S0 S2 S3 HI6 HI7 q1 HL6 HL7
  obtain ⟨z0, z1, z2, z3⟩ := (unhide HI8).four
  go_wp2_with fail
  refine (markOrder_any N G m xs _ hm (unhide HI8).P hxs b0 (by omega)).mono ?_
  rintro e w9 ⟨k, rfl, hk, hb9, hc9⟩
  have HI9 := hide ((unhide HI8).mark (by omega) (by omega) (by omega) (hb9.mono (by omega)) hc9); have HL9 := hide ((unhide HL8).mark (by omega) (by omega) (by omega) hb9 hc9)
  clear z0 z1 z2 z3 HI8 hb9 hc9 HL8
  have hk0 : ¬ (k : Int) < 0 := by omega
  obtain ⟨z0, z1, z2, z3, z4, z5⟩ := sixB (unhide HI9).B
  obtain ⟨y0, y1, y2, y3, y4, y5⟩ := sixB (unhide HI9).D
  go_wp2_with fail
  refine (eqLattice_true N bot top _ _ _ _ _ _ s s s _ _ _ _ _ _ F J M _ (by omega) (by omega) (by omega) (unhide HL9).b1.bools (unhide HL9).b2.ints (unhide HL9).b3.ints (unhide HR _ (unhide HL9).V).1 (unhide HR _ (unhide HL9).V).2.1 (unhide HR _ (unhide HL9).V).2.2).mono ?_
  rintro e w10 ⟨rfl, hb10⟩
  have HI10 := hide ((unhide HI9).mono hb10); have HL10 := hide ((unhide HL9).mono hb10)
  clear hb10 HI9 HL9 z0 z1 z2 z3 z4 z5 y0 y1 y2 y3 y4 y5
  obtain ⟨y0, y1, y2, y3, y4, y5⟩ := sixB (unhide HI10).D
  go_wp2_with fail
  refine (markLattice_ok N bot top G1 G2 G3 s F J M _ hs (unhide HL10).b1 (unhide HL10).b2 (unhide HL10).b3 n1 n2 n3 b0 (by omega) (by omega) (by omega)).mono ?_
  rintro e w11 ⟨rfl, l1, l2, l3, hb11, hc11⟩
  have HI11 := hide ((unhide HI10).mark (by omega) (by omega) (by omega) (hb11.mono (by omega)) hc11)
  have HL11 : Hid (Lat3 w3 b0 G1 G2 G3 s _ _ _ w11) := hide ⟨(unhide HL10).V.trans hb11, Nat.le_trans (unhide HL10).size hb11.size, l1, l2, l3⟩
  obtain ⟨KK, hKK⟩ : ∃ K : Nat, 1 + s + s + s = K := ⟨_, rfl⟩
  rw [hKK]
  have HKK := hide hKK
  clear hKK l1 l2 l3 hb11 hc11 HI10 HL10 y0 y1 y2 y3 y4 y5
  obtain ⟨y0, y1, y2, y3, y4, y5⟩ := sixB (unhide HI11).D
  go_wp2_with fail
  refine (heldLattice_ok N bot top G1 G2 G3 s _ hs (unhide HL11).b1 (unhide HL11).b2 (unhide HL11).b3).mono ?_
  rintro e w12 ⟨rfl, hb12⟩
  rw [unhide HKK]
  have hKneg : ¬ (KK : Int) < 0 := by omega
  have HI12 := hide ((unhide HI11).mono hb12); have HV12 := hide ((unhide HL11).mono hb12).V; have hV12 := ((unhide HL11).mono hb12).size
  clear hb12 HI11 HL11 y0 y1 y2 y3 y4 y5
  obtain ⟨⟨y0, y1⟩, -⟩ := pairO (unhide HI12).A
  go_wp2_with fail
  refine (toOrder_any N a m c f g _ hm (ha.mono (unhide HI12).U)).mono ?_
  rintro e w13 ⟨G5, rfl, k13, -, -, hb13⟩
  have HI13 := hide ((unhide HI12).mono hb13); have HV13 := hide ((unhide HV12).trans (hb13.mono hV12)); have hV13 := Nat.le_trans hV12 hb13.size
  clear hb13 HI12 HV12 hV12 y0 y1
  go_wp2_with fail
  refine (unhide HI _ _ _ k13 (ht.mono (unhide HI13).U)).mono ?_
  rintro e w14 ⟨E1, E2, E3, rfl, l1, l2, l3, -, -, -, -, -, -, hb14⟩
  have bX := Blk.new w14 29 #[.int .i64 N, .slice (some ⟨E1, 0, none⟩) s s, .slice (some ⟨E2, 0, none⟩) s s, .slice (some ⟨E3, 0, none⟩) s s, .int .i64 bot, .int .i64 top]
  have bw : Below w14.heap.size w14 (w14.alloc (.cells #[.int .i64 N, .slice (some ⟨E1, 0, none⟩) s s, .slice (some ⟨E2, 0, none⟩) s s, .slice (some ⟨E3, 0, none⟩) s s, .int .i64 bot, .int .i64 top] 29)) := (Below.refl _ _).alloc (Nat.le_refl _) _
  have HI14 := hide (((unhide HI13).mono hb14).mono bw)
  have HL14 : Hid (Lat3 w3 b0 E1 E2 E3 s F J M w14) := hide ⟨(unhide HV13).trans (hb14.mono hV13), Nat.le_trans hV13 hb14.size, l1, l2, l3⟩
  replace HL14 := hide ((unhide HL14).mono bw)
  obtain ⟨z0, z1, z2, z3, z4, z5⟩ := sixB (unhide HI14).B
  obtain ⟨y0, y1, y2, y3, y4, y5⟩ := sixB bX
  clear hb14 HI13 bX bw k13 l1 l2 l3 HV13
  go_wp2_with fail
  refine (eqLattice_true N bot top _ _ _ _ _ _ s s s _ _ _ _ _ _ F J M _ (by omega) (by omega) (by omega) (unhide HL14).b1.bools (unhide HL14).b2.ints (unhide HL14).b3.ints (unhide HR _ (unhide HL14).V).1 (unhide HR _ (unhide HL14).V).2.1 (unhide HR _ (unhide HL14).V).2.2).mono ?_
  rintro e w15 ⟨rfl, hb15⟩
  have HI15 := hide ((unhide HI14).mono hb15)
  clear hb15 HI14 z0 z1 z2 z3 z4 z5 y0 y1 y2 y3 y4 y5
  go_wp2
  go_ret
  exact ⟨rfl, (unhide HI15).U⟩

/-- The law holds of every order. -/
theorem lawBuild_any (N : Int) (a : Option Addr) (m c : Nat) (f g : Nat → Int) (w : World) (hm : m ≤ 9223372036854775807) (ha : Pairs w a m f g) (ht : Tab w) :
    Calls Tryd.prog 3 #[.agg #[.int .i64 N, .slice a m c]] w fun e w' => e = .returned (.bool true) ∧ Below w.heap.size w w' := by
  by_cases h : m ≤ 1048576
  · rcases dich N m f g h with ⟨code, h1, h2⟩ | ⟨s, F, J, M, bot, top, hs, h1, h2⟩
    · exact lawBuild_zero N a m c f g w h ha ht code h1 h2
    · exact lawBuild_full N a m c f g w h ha ht s F J M bot top hs h1 h2
  · have BW : Below w.heap.size w (w.alloc (.cells #[.int .i64 N, .slice a m c] 24)) := (Below.refl _ _).alloc (Nat.le_refl _) _
    have HW := hide BW; clear BW
    go_enter Tryd.func3, Tryd.ntmps3
    go_wp2_with fail
    refine (szOrder_any N a m c _ hm).mono ?_
    rintro e w1 ⟨rfl, hb1⟩
    rw [if_neg h]
    replace HW := hide ((unhide HW).trans (hb1.mono (unhide HW).size)); clear hb1
    go_wp2
    go_ret
    exact ⟨rfl, unhide HW⟩
end Go.Proofs.YtnmpkdmflijhpaaDoor
