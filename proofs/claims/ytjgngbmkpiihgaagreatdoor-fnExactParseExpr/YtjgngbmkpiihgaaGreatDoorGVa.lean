import Derived.Test.YtjgngbmkpiihgaaGreatDoorBase
import Derived.Test.YtjgngbmkpiihgaaGreatDoorVal
import Derived.Test.YtjgngbmkpiihgaaGreatDoorGNa
import Derived.Test.YtjgngbmkpiihgaaGreatDoorGHn
import Derived.Test.YtjgngbmkpiihgaaGreatDoorGMk
/- A value equals itself. -/
namespace Go.Proofs.YtjgngbmkpiihgaaGreatDoor
open Go Go.RowKit

set_option maxRecDepth 100000 in
set_option maxHeartbeats 1000000 in
theorem eqValue_refl (k n : Int) (t : ByteArray) (w : World) :
    Calls Tryz.prog 73 #[.agg #[.int .i64 k, .int .i64 n, .string t], .agg #[.int .i64 k, .int .i64 n, .string t]] w fun e w' => e = .returned (.bool true) ∧ Below w.heap.size w w' := by
  have hq : (t.toList == t.toList) = true := by simp
  have hB : ∀ o1 o2, Below w.heap.size w ((w.alloc o1).alloc o2) := fun o1 o2 => ((Below.refl _ w).alloc (Nat.le_refl _) o1).alloc (by simp) o2
  have HB := hide hB; clear hB
  go_enter Tryz.func73, Tryz.ntmps73
  go_wp2
  go_ret
  exact ⟨rfl, unhide HB _ _⟩
end Go.Proofs.YtjgngbmkpiihgaaGreatDoor

/- (loose) Values in package laws: size and copy. -/
namespace Go.Proofs.YtjgngbmkpiihgaaGreatDoor
open Go Go.RowKit

end Go.Proofs.YtjgngbmkpiihgaaGreatDoor

/- (loose) Lists of nodes in package laws: size, copy, comparison. -/
namespace Go.Proofs.YtjgngbmkpiihgaaGreatDoor
open Go Go.RowKit

theorem info_node : (Tryz.prog.info? 41).map (fun i => (i.zero, i.size, i.bytes)) = some (some (.agg #[.int .i64 0, .int .i64 0, .int .i64 0, .string ⟨#[]⟩, .string ⟨#[]⟩]), 5, 56) := by kernel_rfl
theorem Blk.of_owns5 {w : World} {base e g n : Nat} {xs : List Value} (h : w.ownsRow base e 5 (.slice (some ⟨g, 0, none⟩) n n) n xs) : Blk w g e xs ∧ xs.length = n * 5 := by
  refine ⟨?_, h.1⟩
  rcases h.2 with ⟨h', _⟩ | ⟨g', cap', cur, h', _, hg, _, _, hs, htake⟩
  · simp at h'
  · simp only [Value.slice.injEq, Option.some.injEq, Addr.mk.injEq, and_true, true_and] at h'
    obtain ⟨rfl, rfl⟩ := h'
    rw [List.take_of_length_le (by simp; omega)] at htake
    rw [← htake]; simpa [Blk] using hg

set_option maxRecDepth 100000 in
set_option maxHeartbeats 4000000 in
theorem eqNode_refl (n : Nx) (w : World) :
    Calls Tryz.prog 39 #[nv n, nv n] w fun r w' => r = .returned (.bool true) ∧ Below w.heap.size w w' := by
  unfold nv
  have hq : (n.nm.toList == n.nm.toList) = true := by simp
  have HK := hide ((Blk.new w 41 #[.int .i64 n.op, .int .i64 n.v.k, .int .i64 n.v.n, .string n.v.s, .string n.nm]).alloc (.cells #[.int .i64 n.op, .int .i64 n.v.k, .int .i64 n.v.n, .string n.v.s, .string n.nm] 41))
  have HR := hide (Blk.new (w.alloc (.cells #[.int .i64 n.op, .int .i64 n.v.k, .int .i64 n.v.n, .string n.v.s, .string n.nm] 41)) 41 #[.int .i64 n.op, .int .i64 n.v.k, .int .i64 n.v.n, .string n.v.s, .string n.nm])
  have HB := hide (((Below.refl w.heap.size w).alloc (Nat.le_refl _) (.cells #[.int .i64 n.op, .int .i64 n.v.k, .int .i64 n.v.n, .string n.v.s, .string n.nm] 41)).alloc (by simp) (.cells #[.int .i64 n.op, .int .i64 n.v.k, .int .i64 n.v.n, .string n.v.s, .string n.nm] 41))
  simp only [World.size_alloc] at HR
  go_enter Tryz.func39, Tryz.ntmps39
  go_wp2_with fail
  refine (eqValue_refl n.v.k n.v.n n.v.s _).mono ?_
  rintro x w2 ⟨rfl, hb⟩
  replace HK := hide ((unhide HK).mono hb (unhide HK).lt); replace HR := hide ((unhide HR).mono hb (unhide HR).lt); replace HB := hide ((unhide HB).trans (hb.mono (unhide HB).size))
  clear hb
  obtain ⟨y0, y1, y2, y3, y4⟩ := five (unhide HK)
  obtain ⟨r0, r1, r2, r3, r4⟩ := five (unhide HR)
  go_wp2_with fail
  go_ret
  exact ⟨rfl, unhide HB⟩

set_option maxRecDepth 100000 in
set_option maxHeartbeats 4000000 in
theorem eqNodeS_true (a b : Option Addr) (e : Nat → Nx) (n ca cb : Nat) (w : World) (hn : n ≤ 1048576) (ha : Nods w a n e) (hb : Nods w b n e) :
    Calls Tryz.prog 13 #[.slice a n ca, .slice b n cb] w fun r w' => r = .returned (.bool true) ∧ Below w.heap.size w w' := by
  have HA := hide ha; have HB0 := hide hb
  clear ha hb
  go_enter Tryz.func13, Tryz.ntmps13
  go_wp2_with fail
  go_loopw [5] (fun i wr => ∃ k : Nat, k ≤ n ∧ i = .int .i64 k ∧ Below w.heap.size w wr) (fun i _ => n - (intOf i).toNat)
  case atStart => exact ⟨0, Nat.zero_le _, rfl, Below.refl _ _⟩
  case round =>
    obtain ⟨k, hk, rfl, hB⟩ := hrel
    have HB := hide hB
    by_cases hlt : k < n
    · obtain ⟨b1, o1, rfl, C1⟩ := ((unhide HA).mono hB) k hlt
      obtain ⟨b2, o2, rfl, C2⟩ := ((unhide HB0).mono hB) k hlt
      obtain ⟨u, hu⟩ : ∃ u, e k = u := ⟨_, rfl⟩
      rw [hu] at C1 C2
      have HC1 := hide C1; have HC2 := hide C2
      have k0 : (0 : Int) ≤ k := by omega
      have k1 : (k : Int) < n := by omega
      clear hB hu C1 C2
      go_wp2_with fail
      refine wp_region_held_drew (S := fun w' => NCel w' b1 (o1 + k * 5) u ∧ NCel w' b2 (o2 + k * 5) u) (by kernel_rfl) ⟨unhide HC1, unhide HC2⟩ (fun hHeld => ?_)
      refine takeY (i := 0) (v := .slice (some ⟨b1, o1, none⟩) n ca) 17 rfl rfl (by kernel_rfl) (by kernel_rfl) (by kernel_rfl) (fun _ _ _ _ h => h) (by rfl) (fun w hS => by simp [execOp, go_sem, *]) hHeld ?_
      simp only [List.setIfInBounds_toArray, List.set_cons_zero, List.set_cons_succ]
      refine takeY (i := 1) (v := .int .i64 k) 18 rfl rfl (by kernel_rfl) (by kernel_rfl) (by kernel_rfl) (fun _ _ _ _ h => h) (by rfl) (fun w hS => by simp [execOp, go_sem, *]) hHeld ?_
      simp only [List.setIfInBounds_toArray, List.set_cons_zero, List.set_cons_succ]
      refine takeY (i := 2) (v := .pointer (some ⟨b1, o1 + k * 5, none⟩)) 19 rfl rfl (by kernel_rfl) (by kernel_rfl) (by kernel_rfl) (fun _ _ _ _ h => h) (by rfl) (fun w hS => by simp [execOp, go_sem, *]) hHeld ?_
      simp only [List.setIfInBounds_toArray, List.set_cons_zero, List.set_cons_succ]
      refine takeY (i := 3) (v := .agg #[.int .i64 u.op, .int .i64 u.v.k, .int .i64 u.v.n, .string u.v.s, .string u.nm]) 20 rfl rfl (by kernel_rfl) (by kernel_rfl) (by kernel_rfl) (fun _ _ _ _ h => h) (by rfl) (fun w hS => by obtain ⟨⟨-, q0, q1, q2, q3, q4⟩, -⟩ := hS; simp [execOp, go_sem, q0, q1, q2, q3, q4]) hHeld ?_
      simp only [List.setIfInBounds_toArray, List.set_cons_zero, List.set_cons_succ]
      refine takeY (i := 4) (v := .slice (some ⟨b2, o2, none⟩) n cb) 21 rfl rfl (by kernel_rfl) (by kernel_rfl) (by kernel_rfl) (fun _ _ _ _ h => h) (by rfl) (fun w hS => by simp [execOp, go_sem, *]) hHeld ?_
      simp only [List.setIfInBounds_toArray, List.set_cons_zero, List.set_cons_succ]
      refine takeY (i := 5) (v := .int .i64 k) 22 rfl rfl (by kernel_rfl) (by kernel_rfl) (by kernel_rfl) (fun _ _ _ _ h => h) (by rfl) (fun w hS => by simp [execOp, go_sem, *]) hHeld ?_
      simp only [List.setIfInBounds_toArray, List.set_cons_zero, List.set_cons_succ]
      refine takeY (i := 6) (v := .pointer (some ⟨b2, o2 + k * 5, none⟩)) 23 rfl rfl (by kernel_rfl) (by kernel_rfl) (by kernel_rfl) (fun _ _ _ _ h => h) (by rfl) (fun w hS => by simp [execOp, go_sem, *]) hHeld ?_
      simp only [List.setIfInBounds_toArray, List.set_cons_zero, List.set_cons_succ]
      refine takeY (i := 7) (v := .agg #[.int .i64 u.op, .int .i64 u.v.k, .int .i64 u.v.n, .string u.v.s, .string u.nm]) 24 rfl rfl (by kernel_rfl) (by kernel_rfl) (by kernel_rfl) (fun _ _ _ _ h => h) (by rfl) (fun w hS => by obtain ⟨-, ⟨-, q0, q1, q2, q3, q4⟩⟩ := hS; simp [execOp, go_sem, q0, q1, q2, q3, q4]) hHeld ?_
      simp only [List.setIfInBounds_toArray, List.set_cons_zero, List.set_cons_succ]
      refine callY (i := 8) (f := 39) (args := #[nv u, nv u]) (R := fun v wz => v = .bool true ∧ Below wr.heap.size wr wz) 25 rfl rfl (by rfl) (by kernel_rfl) ?hrun1 ((eqNode_refl u _).mono fun e w6 ⟨he, hb⟩ => ⟨_, he, rfl, below_of_drew hb⟩) ?_
      case hrun1 => simp [execOp, go_sem, nv]
      rintro v w6 ⟨rfl, hb6⟩
      have HB6 := hide ((unhide HB).trans (hb6.mono (unhide HB).size))
      replace hHeld : NCel w6 b1 (o1 + k * 5) u ∧ NCel w6 b2 (o2 + k * 5) u := ⟨(unhide HC1).mono hb6, (unhide HC2).mono hb6⟩
      clear hb6
      refine ⟨hHeld, ?_⟩
      simp only [List.setIfInBounds_toArray, List.set_cons_zero, List.set_cons_succ]
      refine takeY (i := 9) (v := .bool false) 26 rfl rfl (by kernel_rfl) (by kernel_rfl) (by kernel_rfl) (fun _ _ _ _ h => h) (by rfl) (fun w hS => by simp [execOp, go_sem, *]) hHeld ?_
      simp only [List.setIfInBounds_toArray, List.set_cons_zero, List.set_cons_succ]
      refine wpAnyH_done (by kernel_rfl) ?_ _
      clear hHeld
      go_wp2_with fail
      go_roundw
      case rel => exact ⟨k + 1, by omega, by go_num, unhide HB6⟩
      case measure => simp [intOf]; omega
    · obtain rfl : n = k := by omega
      clear hB
      go_wp2_with fail
      go_ret
      exact ⟨rfl, unhide HB⟩
end Go.Proofs.YtjgngbmkpiihgaaGreatDoor
