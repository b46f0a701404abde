import Derived.Test.YtalgidagiojbpaaGreatDoorQVal
import Derived.Test.YtalgidagiojbpaaGreatDoorQBase
import Derived.Test.YtalgidagiojbpaaGreatDoorQGNo
import Derived.Test.YtalgidagiojbpaaGreatDoorQHand
import Derived.Test.YtalgidagiojbpaaGreatDoorQBnd
import Derived.Test.YtalgidagiojbpaaGreatDoorQBk
/- Values in package laws: size and copy. -/
namespace Go.Proofs.YtalgidagiojbpaaGreatDoor
open Go Go.RowKit
set_option maxHeartbeats 400000 in
theorem szValue_any (kind num : Int) (s : ByteArray) (left : Int) (w : World) (hs : s.size <= 9223372036854775807) (h0 : 0 <= left) (h1 : left <= 1048576) :
 Calls Tryz.prog 132 #[.agg #[.int .i64 kind, .int .i64 num, .string s], .int .i64 left] w fun e w' => e = .returned (.int .i64 (if left < s.size then -1 else left - s.size)) /\ Below w.heap.size w w' := by
 by_cases h : left < s.size
 all_goals
  go_enter Tryz.func132, Tryz.ntmps132
  go_wp2
  go_ret
  exact ⟨rfl, (Below.refl _ _).alloc (Nat.le_refl _) _⟩
set_option maxHeartbeats 400000 in
theorem toValue_any (kind num : Int) (s : ByteArray) (w : World) :
 Calls Tryz.prog 144 #[.agg #[.int .i64 kind, .int .i64 num, .string s]] w fun e w' => e = .returned (.agg #[.int .i64 kind, .int .i64 num, .string s]) /\ Below w.heap.size w w' := by
 go_enter Tryz.func144, Tryz.ntmps144
 go_wp2
 refine bodyPost_ret (v := .agg #[.int .i64 kind, .int .i64 num, .string s]) (by simp [results, Tryz.results144, go_sem, *]) rfl ⟨rfl, ?_⟩
 exact (((Below.refl _ w).alloc (Nat.le_refl _) _).alloc (by simp) _).alloc (by simp; omega) _
end Go.Proofs.YtalgidagiojbpaaGreatDoor
/- A value equals itself. -/
namespace Go.Proofs.YtalgidagiojbpaaGreatDoor
open Go Go.RowKit
set_option maxRecDepth 100000 in
set_option maxHeartbeats 1000000 in
theorem eqValue_refl (k n : Int) (t : ByteArray) (w : World) :
 Calls Tryz.prog 161 #[.agg #[.int .i64 k, .int .i64 n, .string t], .agg #[.int .i64 k, .int .i64 n, .string t]] w fun e w' => e = .returned (.bool true) /\ Below w.heap.size w w' := by
 have hq : (t.toList == t.toList) = true := by simp
 have hB : ∀ o1 o2, Below w.heap.size w ((w.alloc o1).alloc o2) := fun o1 o2 => ((Below.refl _ w).alloc (Nat.le_refl _) o1).alloc (by simp) o2
 have HB := h_ hB; clear hB
 go_enter Tryz.func161, Tryz.ntmps161
 go_wp2
 go_ret
 exact ⟨rfl, u_ HB _ _⟩
end Go.Proofs.YtalgidagiojbpaaGreatDoor
/- Lists of nodes in package laws: size, copy, comparison. -/
namespace Go.Proofs.YtalgidagiojbpaaGreatDoor
open Go Go.RowKit
theorem info_node : (Tryz.prog.info? 149).map (fun i => (i.zero, i.size, i.bytes)) = some (some (.agg #[.int .i64 0, .int .i64 0, .int .i64 0, .string ⟨#[]⟩, .string ⟨#[]⟩]), 5, 56) := by kernel_rfl
theorem Blk.of_owns5 {w : World} {base e g n : Nat} {xs : List Value} (h : w.ownsRow base e 5 (.slice (some ⟨g, 0, none⟩) n n) n xs) : Blk w g e xs /\ xs.length = n * 5 := by
 refine ⟨?_, h.1⟩
 rcases h.2 with ⟨h', _⟩ | ⟨g', cap', cur, h', _, hg, _, _, hs, htake⟩
 . simp at h'
 . simp only [Value.slice.injEq, Option.some.injEq, Addr.mk.injEq, and_true, true_and] at h'
   obtain ⟨rfl, rfl⟩ := h'
   rw [List.take_of_length_le (by simp; omega)] at htake
   rw [<- htake]; simpa [Blk] using hg
set_option maxRecDepth 100000 in
set_option maxHeartbeats 4000000 in
theorem szNode_any (n : Nx) (left : Int) (w : World) (hf : Fit n) (l0 : 0 <= left) (l1 : left <= 1048576) :
 Calls Tryz.prog 101 #[nv n, .int .i64 left] w fun r w' => ∃ q : Int, r = .returned (.int .i64 q) /\ (0 <= q -> q <= 1048576 /\ n.v.s.size <= 1048576 /\ n.nm.size <= 1048576) /\ (q < 0 -> q = -1) /\ Below w.heap.size w w' := by
 obtain ⟨hs, hm, -, -⟩ := hf
 unfold nv
 have HK := h_ (Blk.new w 157 #[.int .i64 n.op, .int .i64 n.v.k, .int .i64 n.v.n, .string n.v.s, .string n.nm])
 have HB := h_ ((Below.refl w.heap.size w).alloc (Nat.le_refl _) (.cells #[.int .i64 n.op, .int .i64 n.v.k, .int .i64 n.v.n, .string n.v.s, .string n.nm] 157))
 go_enter Tryz.func101, Tryz.ntmps101
 go_wp2_with fail
 refine (szValue_any n.v.k n.v.n n.v.s left _ hs l0 l1).mono ?_
 rintro e w2 ⟨rfl, hb⟩
 replace HK := mB HK hb; replace HB := mT HB hb
 clear hb
 obtain ⟨y0, y1, y2, y3, y4⟩ := five (u_ HK)
 by_cases hq : left < n.v.s.size
 . rw [if_pos hq]
   go_wp2_with fail
   go_ret
   exact ⟨_, rfl, fun h => absurd h (by decide), fun _ => rfl, u_ HB⟩
 . rw [if_neg hq]
   have hq' : ¬ left - n.v.s.size < 0 := by omega
   obtain ⟨l2, hl2⟩ : ∃ l2 : Int, left - n.v.s.size = l2 := ⟨_, rfl⟩
   have HL : Hid (l2 <= 1048576 /\ n.v.s.size <= 1048576 /\ 0 <= l2) := h_ (by omega)
   rw [hl2] at hq' ⊢
   clear hl2 hq
   have hl3 := (u_ HL).1
   by_cases hr : l2 < n.nm.size
   . have hr' : l2 - n.nm.size < 0 := by omega
     go_wp2_with fail
     go_ret
     exact ⟨_, rfl, fun h => absurd h (by decide), fun _ => rfl, u_ HB⟩
   . have hr' : ¬ l2 - n.nm.size < 0 := by omega
     go_wp2_with fail
     go_ret
     exact ⟨_, rfl, fun _ => by have := u_ HL; omega, fun h => by omega, u_ HB⟩
set_option maxRecDepth 100000 in
set_option maxHeartbeats 4000000 in
theorem szNodeS_any (a : Option Addr) (m c : Nat) (e : Nat -> Nx) (l0 : Int) (w : World) (h0 : 0 <= l0) (h1 : l0 <= 1048576) (hm : m <= 9223372036854775807) (hf : ∀ k, k < m -> Fit (e k)) (ha : Nods w a m e) :
 Calls Tryz.prog 76 #[.slice a m c, .int .i64 l0] w fun r w' => ∃ q : Int, r = .returned (.int .i64 q) /\ (0 <= q -> q <= 1048576 /\ m <= 1048576 /\ ∀ k, k < m -> (e k).v.s.size <= 1048576 /\ (e k).nm.size <= 1048576) /\ (q < 0 -> q = -1) /\ Below w.heap.size w w' := by
 have HA := h_ ha; have HF := h_ hf
 clear ha hf
 have hw1 : wrap64 (l0 - (m : Int)) = l0 - (m : Int) := wrap64_small (by omega) (by omega)
 by_cases h : (m : Int) <= l0
 . have h' : ¬ l0 - (m : Int) < 0 := by omega
   obtain ⟨lq, hlq⟩ : ∃ lq : Int, l0 - (m : Int) = lq := ⟨_, rfl⟩
   have HLQ : Hid (0 <= lq /\ lq <= 1048576) := h_ (by omega)
   rw [hlq] at h' hw1
   go_enter Tryz.func76, Tryz.ntmps76
   go_wp2_with fail
   try rw [hlq]
   clear hlq hw1 h'
   go_loopw [1, 5] (fun l i wr => ∃ (k : Nat) (left : Int), k <= m /\ l = .int .i64 left /\ i = .int .i64 k /\ 0 <= left /\ left <= 1048576 /\ (∀ j, j < k -> (e j).v.s.size <= 1048576 /\ (e j).nm.size <= 1048576) /\ Below w.heap.size w wr) (fun _ i _ => m - (intOf i).toNat)
   case atStart => exact ⟨0, _, Nat.zero_le _, rfl, rfl, (u_ HLQ).1, (u_ HLQ).2, fun j hj => absurd hj (Nat.not_lt_zero _), Below.refl _ _⟩
   case round =>
    clear HLQ
    obtain ⟨k, left, hk, rfl, rfl, q0, q1, hall, hb⟩ := hrel
    have HALL := h_ hall; have HB := h_ hb
    have HV := h_ ((u_ HA).mono hb)
    clear hall hb
    by_cases hlt : k < m
    . have hlt' : (k : Int) < m := by omega
      obtain ⟨b, o, rfl, -, c0, c1, c2, c3, c4⟩ := u_ HV k hlt
      go_wp2_with fail
      refine (szNode_any (e k) left _ (u_ HF k hlt) q0 q1).mono ?_
      rintro r w2 ⟨q, rfl, hq, hq', hb⟩
      replace HB := mT HB hb
      clear hb c0 c1 c2 c3 c4
      by_cases hn : q < 0
      . obtain rfl := hq' hn
        clear hq hq' hn
        go_wp2_with fail
        go_ret
        exact ⟨_, rfl, fun h => absurd h (by decide), fun _ => rfl, u_ HB⟩
      . have HQ := h_ (hq (by omega))
        have HN : Hid (∀ j, j < k + 1 -> (e j).v.s.size <= 1048576 /\ (e j).nm.size <= 1048576) := h_ fun j hj => by
         by_cases ej : j = k
         . rw [ej]; exact (u_ HQ).2
         . exact u_ HALL j (by omega)
        clear hq hq'
        go_wp2_with fail
        go_roundw
        case rel => exact ⟨k + 1, q, by omega, rfl, by go_num, by omega, (u_ HQ).1, u_ HN, u_ HB⟩
        case measure => simp [intOf]; omega
    . obtain rfl : k = m := by omega
      go_wp2_with fail
      go_ret
      exact ⟨_, rfl, fun _ => ⟨q1, by omega, u_ HALL⟩, fun h => by omega, u_ HB⟩
 . have h' : l0 - (m : Int) < 0 := by omega
   go_enter Tryz.func76, Tryz.ntmps76
   go_wp2_with fail
   go_ret
   exact ⟨_, rfl, fun h => absurd h (by decide), fun _ => rfl, Below.refl _ _⟩
set_option maxRecDepth 100000 in
set_option maxHeartbeats 4000000 in
theorem toNode_any (n : Nx) (w : World) :
 Calls Tryz.prog 110 #[nv n] w fun r w' => r = .returned (nv n) /\ Below w.heap.size w w' := by
 unfold nv
 have HK := h_ (((Blk.new w 157 #[.int .i64 n.op, .int .i64 n.v.k, .int .i64 n.v.n, .string n.v.s, .string n.nm]).alloc (.cells #[.int .i64 0, .int .i64 0, .int .i64 0, .string ⟨#[]⟩, .string ⟨#[]⟩] 149)).alloc (.cells #[.int .i64 n.op, .int .i64 0, .int .i64 0, .string ⟨#[]⟩, .string ⟨#[]⟩] 149))
 have HR := h_ ((Blk.new (w.alloc (.cells #[.int .i64 n.op, .int .i64 n.v.k, .int .i64 n.v.n, .string n.v.s, .string n.nm] 157)) 149 #[.int .i64 0, .int .i64 0, .int .i64 0, .string ⟨#[]⟩, .string ⟨#[]⟩]).alloc (.cells #[.int .i64 n.op, .int .i64 0, .int .i64 0, .string ⟨#[]⟩, .string ⟨#[]⟩] 149))
 have HO := h_ (Blk.new ((w.alloc (.cells #[.int .i64 n.op, .int .i64 n.v.k, .int .i64 n.v.n, .string n.v.s, .string n.nm] 157)).alloc (.cells #[.int .i64 0, .int .i64 0, .int .i64 0, .string ⟨#[]⟩, .string ⟨#[]⟩] 149)) 149 #[.int .i64 n.op, .int .i64 0, .int .i64 0, .string ⟨#[]⟩, .string ⟨#[]⟩])
 have HB := h_ ((((Below.refl w.heap.size w).alloc (Nat.le_refl _) (.cells #[.int .i64 n.op, .int .i64 n.v.k, .int .i64 n.v.n, .string n.v.s, .string n.nm] 157)).alloc (by simp) (.cells #[.int .i64 0, .int .i64 0, .int .i64 0, .string ⟨#[]⟩, .string ⟨#[]⟩] 149)).alloc (by simp; omega) (.cells #[.int .i64 n.op, .int .i64 0, .int .i64 0, .string ⟨#[]⟩, .string ⟨#[]⟩] 149))
 simp only [World.size_alloc] at HR HO
 go_enter Tryz.func110, Tryz.ntmps110
 go_wp2_with fail
 refine (toValue_any n.v.k n.v.n n.v.s _).mono ?_
 rintro x w2 ⟨rfl, hb⟩
 replace HK := mB HK hb; replace HR := mB HR hb; replace HO := mB HO hb; replace HB := mT HB hb
 clear hb
 obtain ⟨y0, y1, y2, y3, y4⟩ := five (u_ HK)
 obtain ⟨r0, r1, r2, r3, r4⟩ := five (u_ HR)
 obtain ⟨o0, o1, o2, o3, o4⟩ := five (u_ HO)
 have f0 := (u_ HR).free 0; have f1 := (u_ HR).free 1; have f2 := (u_ HR).free 2; have f3 := (u_ HR).free 3; have f4 := (u_ HR).free 4
 have g1 := (u_ HO).free 1; have g2 := (u_ HO).free 2; have g3 := (u_ HO).free 3; have g4 := (u_ HO).free 4
 go_wp2_with fail
 refine bodyPost_ret (v := .agg #[.int .i64 n.op, .int .i64 n.v.k, .int .i64 n.v.n, .string n.v.s, .string n.nm]) (by simp [results, Tryz.results110, go_sem, *]) rfl ⟨rfl, ?_⟩
 exact (((((((((u_ HB).setCell (by simp; omega) _).setCell (by simp; omega) _).setCell (by simp; omega) _).setCell (by simp; omega) _).setCell (by simp) _).setCell (by simp) _).setCell (by simp) _).setCell (by simp) _).setCell (by simp) _
set_option maxRecDepth 100000 in
set_option maxHeartbeats 4000000 in
theorem toNodeS_bk (a : Option Addr) (e : Nat -> Nx) (n c : Nat) (w : World) (ha : Nods w a n e) (hn : n <= 1048576) :
 Calls Tryz.prog 88 #[.slice a n c] w fun r w' => r = .returned (.slice (some ⟨w.heap.size, 0, none⟩) n n) /\ Nods w' (some ⟨w.heap.size, 0, none⟩) n e /\ Bk w' w.heap.size 149 (n * 5) /\ Below w.heap.size w w' := by
 obtain ⟨i0, hi, hz0, hz1, hz2⟩ := info_parts info_node
 obtain ⟨B, hB⟩ : ∃ B, w.heap.size = B := ⟨_, rfl⟩
 have hbn : i0.bytes * n <= 281474976710656 := by rw [hz2]; omega
 have HA := h_ ha
 clear ha
 go_enter Tryz.func88, Tryz.ntmps88
 go_wp2_with (at_make; refine wpList_make_full _ rfl _ _ 96 rfl w.heap.size 149 i0 _ 5 Tryz.underlying96 hi hz0 hz1 .i64 .i64 _ _ n rfl rfl rfl rfl hbn (by unfold maxLen; omega) (Nat.le_refl _) ?_; intro w1 hown hgrow)
 have hb1 : Below B w w1 := by rw [<- hB]; exact (Below.refl _ _).grown hgrow (Nat.le_refl _) (fun k h => by cases h)
 rw [hB] at hown
 obtain ⟨hX, hXl⟩ := Blk.of_owns5 hown
 have HX := h_ hX; have HXL := h_ hXl; have HB1 := h_ hb1
 clear hgrow hbn hi hz0 hz1 hz2 hown hX hXl hb1
 go_wp2_with fail
 try rw [hB]
 go_loopw [4] (fun i wr => ∃ (k : Nat) (xs : List Value), k <= n /\ i = .int .i64 k /\ Blk wr B 149 xs /\ xs.length = n * 5 /\ (∀ j, j < k -> xs[j * 5]? = some (.int .i64 (e j).op) /\ xs[j * 5 + 1]? = some (.int .i64 (e j).v.k) /\ xs[j * 5 + 2]? = some (.int .i64 (e j).v.n) /\ xs[j * 5 + 3]? = some (.string (e j).v.s) /\ xs[j * 5 + 4]? = some (.string (e j).nm)) /\ Below B w wr) (fun i _ => n - (intOf i).toNat)
 case atStart => exact ⟨0, _, Nat.zero_le _, rfl, u_ HX, u_ HXL, fun j h => absurd h (Nat.not_lt_zero _), u_ HB1⟩
 case round =>
  clear HX HXL HB1
  obtain ⟨k, xs, hk, rfl, hX, hXl, hx, hb⟩ := hrel
  have HX := h_ hX; have HXL := h_ hXl; have HXX := h_ hx; have HB := h_ hb
  have HV := h_ ((u_ HA).mono (hb.mono (by omega)))
  clear hX hXl hx hb
  by_cases hlt : k < n
  . have hlt' : (k : Int) < n := by omega
    obtain ⟨b1, o1, rfl, hl1, hc1, hc2, hc3, hc4, hc5⟩ := u_ HV k hlt
    go_wp2_with fail
    refine (toNode_any (e k) _).mono ?_
    rintro x w3 ⟨rfl, hb3⟩
    have X3 := (u_ HX).mono hb3 (u_ HX).lt
    have B3 := (u_ HB).trans (hb3.mono (by have := (u_ HX).lt; omega))
    have c0 := X3.cell (k * 5); have c1 := X3.cell (k * 5 + 1); have c2 := X3.cell (k * 5 + 2); have c3 := X3.cell (k * 5 + 3); have c4 := X3.cell (k * 5 + 4)
    have f0 := X3.free (k * 5); have f1 := X3.free (k * 5 + 1); have f2 := X3.free (k * 5 + 2); have f3 := X3.free (k * 5 + 3); have f4 := X3.free (k * 5 + 4)
    rw [List.getElem?_eq_getElem (by have := u_ HXL; omega)] at c0 c1 c2 c3 c4
    have HX3 := h_ X3; have HB3 := h_ B3
    clear X3 B3 hb3 hc1 hc2 hc3 hc4 hc5
    unfold nv
    go_wp2_with fail
    go_roundw
    case rel =>
     refine ⟨k + 1, _, by omega, by go_num, (((((u_ HX3).set (k * 5) (.int .i64 (e k).op)).set (k * 5 + 1) (.int .i64 (e k).v.k)).set (k * 5 + 2) (.int .i64 (e k).v.n)).set (k * 5 + 3) (.string (e k).v.s)).set (k * 5 + 4) (.string (e k).nm), by simpa using u_ HXL, fun j hj => ?_, (((((u_ HB3).setCell (Nat.le_refl _) _).setCell (Nat.le_refl _) _).setCell (Nat.le_refl _) _).setCell (Nat.le_refl _) _).setCell (Nat.le_refl _) _⟩
     have hxl := u_ HXL
     by_cases ej : j = k
     . subst ej
       simp [List.getElem?_set]; omega
     . have := u_ HXX j (by omega)
       simp only [List.getElem?_set]
       (repeat rw [if_neg (by omega)])
       exact this
    case measure => simp [intOf]; omega
  . obtain rfl : n = k := by omega
    go_wp2_with fail
    go_ret
    refine ⟨by rw [hB]; rfl, ?_, ?_, ?_⟩
    . intro j hj
      have := u_ HXX j hj
      exact ⟨B, 0, by rw [hB], (u_ HX).lt, by rw [Nat.zero_add, (u_ HX).cell]; exact this.1, by rw [Nat.zero_add, (u_ HX).cell]; exact this.2.1, by rw [Nat.zero_add, (u_ HX).cell]; exact this.2.2.1, by rw [Nat.zero_add, (u_ HX).cell]; exact this.2.2.2.1, by rw [Nat.zero_add, (u_ HX).cell]; exact this.2.2.2.2⟩
    . rw [hB]; exact ⟨_, u_ HX, u_ HXL⟩
    . rw [hB]; exact u_ HB
set_option maxRecDepth 100000 in
set_option maxHeartbeats 4000000 in
theorem eqNode_refl (n : Nx) (w : World) :
 Calls Tryz.prog 127 #[nv n, nv n] w fun r w' => r = .returned (.bool true) /\ Below w.heap.size w w' := by
 unfold nv
 have hq : (n.nm.toList == n.nm.toList) = true := by simp
 have HK := h_ ((Blk.new w 149 #[.int .i64 n.op, .int .i64 n.v.k, .int .i64 n.v.n, .string n.v.s, .string n.nm]).alloc (.cells #[.int .i64 n.op, .int .i64 n.v.k, .int .i64 n.v.n, .string n.v.s, .string n.nm] 149))
 have HR := h_ (Blk.new (w.alloc (.cells #[.int .i64 n.op, .int .i64 n.v.k, .int .i64 n.v.n, .string n.v.s, .string n.nm] 149)) 149 #[.int .i64 n.op, .int .i64 n.v.k, .int .i64 n.v.n, .string n.v.s, .string n.nm])
 have HB := h_ (((Below.refl w.heap.size w).alloc (Nat.le_refl _) (.cells #[.int .i64 n.op, .int .i64 n.v.k, .int .i64 n.v.n, .string n.v.s, .string n.nm] 149)).alloc (by simp) (.cells #[.int .i64 n.op, .int .i64 n.v.k, .int .i64 n.v.n, .string n.v.s, .string n.nm] 149))
 simp only [World.size_alloc] at HR
 go_enter Tryz.func127, Tryz.ntmps127
 go_wp2_with fail
 refine (eqValue_refl n.v.k n.v.n n.v.s _).mono ?_
 rintro x w2 ⟨rfl, hb⟩
 replace HK := mB HK hb; replace HR := mB HR hb; replace HB := mT HB hb
 clear hb
 obtain ⟨y0, y1, y2, y3, y4⟩ := five (u_ HK)
 obtain ⟨r0, r1, r2, r3, r4⟩ := five (u_ HR)
 go_wp2_with fail
 go_ret
 exact ⟨rfl, u_ HB⟩
set_option maxRecDepth 100000 in
set_option maxHeartbeats 4000000 in
theorem eqNodeS_true (a b : Option Addr) (e : Nat -> Nx) (n ca cb : Nat) (w : World) (hn : n <= 1048576) (ha : Nods w a n e) (hb : Nods w b n e) :
 Calls Tryz.prog 97 #[.slice a n ca, .slice b n cb] w fun r w' => r = .returned (.bool true) /\ Below w.heap.size w w' := by
 have HA := h_ ha; have HB0 := h_ hb
 clear ha hb
 go_enter Tryz.func97, Tryz.ntmps97
 go_wp2_with fail
 go_loopw [5] (fun i wr => ∃ k : Nat, k <= n /\ i = .int .i64 k /\ Below w.heap.size w wr) (fun i _ => n - (intOf i).toNat)
 case atStart => exact ⟨0, Nat.zero_le _, rfl, Below.refl _ _⟩
 case round =>
  obtain ⟨k, hk, rfl, hB⟩ := hrel
  have HB := h_ hB
  by_cases hlt : k < n
  . obtain ⟨b1, o1, rfl, C1⟩ := ((u_ HA).mono hB) k hlt
    obtain ⟨b2, o2, rfl, C2⟩ := ((u_ HB0).mono hB) k hlt
    obtain ⟨u, hu⟩ : ∃ u, e k = u := ⟨_, rfl⟩
    rw [hu] at C1 C2
    have HC1 := h_ C1; have HC2 := h_ C2
    have k0 : (0 : Int) <= k := by omega
    have k1 : (k : Int) < n := by omega
    clear hB hu C1 C2
    go_wp2_with fail
    refine wp_region_held_drew (S := fun w' => NCel w' b1 (o1 + k * 5) u /\ NCel w' b2 (o2 + k * 5) u) (by kernel_rfl) ⟨u_ HC1, u_ HC2⟩ (fun hHeld => ?_)
    refine tk (i := 0) (v := .slice (some ⟨b1, o1, none⟩) n ca) 17 hHeld ?_
    simp only [s1', s2', s3']
    refine tk (i := 1) (v := .int .i64 k) 18 hHeld ?_
    simp only [s1', s2', s3']
    refine tk (i := 2) (v := .pointer (some ⟨b1, o1 + k * 5, none⟩)) 19 hHeld ?_
    simp only [s1', s2', s3']
    refine tk (i := 3) (v := .agg #[.int .i64 u.op, .int .i64 u.v.k, .int .i64 u.v.n, .string u.v.s, .string u.nm]) 20 hHeld ?_ (hy := fun w hS => by obtain ⟨⟨-, q0, q1, q2, q3, q4⟩, -⟩ := hS; simp [execOp, go_sem, q0, q1, q2, q3, q4])
    simp only [s1', s2', s3']
    refine tk (i := 4) (v := .slice (some ⟨b2, o2, none⟩) n cb) 21 hHeld ?_
    simp only [s1', s2', s3']
    refine tk (i := 5) (v := .int .i64 k) 22 hHeld ?_
    simp only [s1', s2', s3']
    refine tk (i := 6) (v := .pointer (some ⟨b2, o2 + k * 5, none⟩)) 23 hHeld ?_
    simp only [s1', s2', s3']
    refine tk (i := 7) (v := .agg #[.int .i64 u.op, .int .i64 u.v.k, .int .i64 u.v.n, .string u.v.s, .string u.nm]) 24 hHeld ?_ (hy := fun w hS => by obtain ⟨-, ⟨-, q0, q1, q2, q3, q4⟩⟩ := hS; simp [execOp, go_sem, q0, q1, q2, q3, q4])
    simp only [s1', s2', s3']
    refine callY (i := 8) (f := 127) (args := #[nv u, nv u]) (R := fun v wz => v = .bool true /\ Below wr.heap.size wr wz) 25 rfl rfl (by rfl) (by kernel_rfl) ?hrun1 ((eqNode_refl u _).mono fun e w6 ⟨he, hb⟩ => ⟨_, he, rfl, below_of_drew hb⟩) ?_
    case hrun1 => simp [execOp, go_sem, nv]
    rintro v w6 ⟨rfl, hb6⟩
    have HB6 := mT HB hb6
    replace hHeld : NCel w6 b1 (o1 + k * 5) u /\ NCel w6 b2 (o2 + k * 5) u := ⟨(u_ HC1).mono hb6, (u_ HC2).mono hb6⟩
    clear hb6
    refine ⟨hHeld, ?_⟩
    simp only [s1', s2', s3']
    refine tk (i := 9) (v := .bool false) 26 hHeld ?_
    simp only [s1', s2', s3']
    refine wpAnyH_done (by kernel_rfl) ?_ _
    clear hHeld
    go_wp2_with fail
    go_roundw
    case rel => exact ⟨k + 1, by omega, by go_num, u_ HB6⟩
    case measure => simp [intOf]; omega
  . obtain rfl : n = k := by omega
    clear hB
    go_wp2_with fail
    go_ret
    exact ⟨rfl, u_ HB⟩
end Go.Proofs.YtalgidagiojbpaaGreatDoor
