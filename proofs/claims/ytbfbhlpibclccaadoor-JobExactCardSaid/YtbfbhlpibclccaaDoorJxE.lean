/- The reference's Scale: the plain arithmetic's result and error number. No conditions. -/
import Derived.Test.YtbfbhlpibclccaaDoorVec
import Derived.Test.YtbfbhlpibclccaaDoorJxD
namespace Go.Proofs.YtbfbhlpibclccaaDoor
open Go Go.RowKit

set_option maxRecDepth 100000 in
set_option maxHeartbeats 800000 in
theorem rscale_bad1 (x : V4) (n : Int) (w : World) (hx : goodV x = false) :
    Calls Tryd.prog 18 #[.agg #[.int .i64 x.a, .int .i64 x.b, .int .i64 x.c, .int .i64 x.d], .int .i64 n] w fun e w' => e = .returned (.tuple #[.agg #[.int .i64 ((scaleR x n).1).a, .int .i64 ((scaleR x n).1).b, .int .i64 ((scaleR x n).1).c, .int .i64 ((scaleR x n).1).d], .int .i64 ((scaleR x n).2 : Nat)]) ∧ Below w.heap.size w w' := by
  rw [scale_no1 hx]
  obtain ⟨a, b, c, d⟩ := x
  go_enter Tryd.func18, Tryd.ntmps18
  go_wp2_with fail
  refine (rgood_x ⟨a, b, c, d⟩ _).mono ?_
  rintro e w1 ⟨rfl, rfl⟩
  go_wp2_with fail
  exact bodyPost_ret (v := .tuple #[.agg #[.int .i64 0, .int .i64 0, .int .i64 0, .int .i64 0], .int .i64 1]) (by simp [results, Tryd.results18, go_sem]) rfl ⟨rfl, by (repeat' (first | (with_reducible exact Below.refl _ _) | (with_reducible refine below_drewN ?_ _) | (with_reducible refine Below.drew ?_) | (with_reducible refine Below.alloc ?_ ?_ _) | (with_reducible refine Below.setCell ?_ ?_ _) | (with_reducible refine Below.trans ?_ (Below.mono (by with_reducible assumption) ?_)) | omega | (simp only [World.size_alloc] at *; omega) | (with_reducible refine Below.size (B := 0) ?_)))⟩

set_option maxRecDepth 100000 in
set_option maxHeartbeats 800000 in
theorem rscale_bad2 (x : V4) (n : Int) (w : World) (hx : goodV x = true) (hn : n < 0) :
    Calls Tryd.prog 18 #[.agg #[.int .i64 x.a, .int .i64 x.b, .int .i64 x.c, .int .i64 x.d], .int .i64 n] w fun e w' => e = .returned (.tuple #[.agg #[.int .i64 ((scaleR x n).1).a, .int .i64 ((scaleR x n).1).b, .int .i64 ((scaleR x n).1).c, .int .i64 ((scaleR x n).1).d], .int .i64 ((scaleR x n).2 : Nat)]) ∧ Below w.heap.size w w' := by
  rw [scale_no2 (by omega)]
  obtain ⟨a, b, c, d⟩ := x
  go_enter Tryd.func18, Tryd.ntmps18
  go_wp2_with fail
  refine (rgood_x ⟨a, b, c, d⟩ _).mono ?_
  rintro e w1 ⟨rfl, rfl⟩
  go_wp2_with fail
  exact bodyPost_ret (v := .tuple #[.agg #[.int .i64 0, .int .i64 0, .int .i64 0, .int .i64 0], .int .i64 1]) (by simp [results, Tryd.results18, go_sem]) rfl ⟨rfl, by (repeat' (first | (with_reducible exact Below.refl _ _) | (with_reducible refine below_drewN ?_ _) | (with_reducible refine Below.drew ?_) | (with_reducible refine Below.alloc ?_ ?_ _) | (with_reducible refine Below.setCell ?_ ?_ _) | (with_reducible refine Below.trans ?_ (Below.mono (by with_reducible assumption) ?_)) | omega | (simp only [World.size_alloc] at *; omega) | (with_reducible refine Below.size (B := 0) ?_)))⟩

set_option maxRecDepth 100000 in
set_option maxHeartbeats 800000 in
theorem rscale_bad3 (x : V4) (n : Int) (w : World) (hx : goodV x = true) (hn0 : 0 ≤ n) (hn : 16 < n) :
    Calls Tryd.prog 18 #[.agg #[.int .i64 x.a, .int .i64 x.b, .int .i64 x.c, .int .i64 x.d], .int .i64 n] w fun e w' => e = .returned (.tuple #[.agg #[.int .i64 ((scaleR x n).1).a, .int .i64 ((scaleR x n).1).b, .int .i64 ((scaleR x n).1).c, .int .i64 ((scaleR x n).1).d], .int .i64 ((scaleR x n).2 : Nat)]) ∧ Below w.heap.size w w' := by
  rw [scale_no2 (by omega)]
  obtain ⟨a, b, c, d⟩ := x
  go_enter Tryd.func18, Tryd.ntmps18
  go_wp2_with fail
  refine (rgood_x ⟨a, b, c, d⟩ _).mono ?_
  rintro e w1 ⟨rfl, rfl⟩
  go_wp2_with fail
  exact bodyPost_ret (v := .tuple #[.agg #[.int .i64 0, .int .i64 0, .int .i64 0, .int .i64 0], .int .i64 1]) (by simp [results, Tryd.results18, go_sem]) rfl ⟨rfl, by (repeat' (first | (with_reducible exact Below.refl _ _) | (with_reducible refine below_drewN ?_ _) | (with_reducible refine Below.drew ?_) | (with_reducible refine Below.alloc ?_ ?_ _) | (with_reducible refine Below.setCell ?_ ?_ _) | (with_reducible refine Below.trans ?_ (Below.mono (by with_reducible assumption) ?_)) | omega | (simp only [World.size_alloc] at *; omega) | (with_reducible refine Below.size (B := 0) ?_)))⟩

set_option maxRecDepth 100000 in
set_option maxHeartbeats 800000 in
theorem rscale_yes (x : V4) (n : Int) (w : World) (hx : goodV x = true) (hn0 : 0 ≤ n) (hn1 : n ≤ 16) (hz : goodV ⟨x.a * n, x.b * n, x.c * n, x.d * n⟩ = true) :
    Calls Tryd.prog 18 #[.agg #[.int .i64 x.a, .int .i64 x.b, .int .i64 x.c, .int .i64 x.d], .int .i64 n] w fun e w' => e = .returned (.tuple #[.agg #[.int .i64 ((scaleR x n).1).a, .int .i64 ((scaleR x n).1).b, .int .i64 ((scaleR x n).1).c, .int .i64 ((scaleR x n).1).d], .int .i64 ((scaleR x n).2 : Nat)]) ∧ Below w.heap.size w w' := by
  rw [scale_yes hx ⟨hn0, hn1⟩, show checkR _ = _ from if_pos (by rw [hz])]
  have gx := (good_iff x).1 hx
  obtain ⟨a, b, c, d⟩ := x
  simp only at gx
  obtain ⟨⟨m0, m0'⟩, ⟨m1, m1'⟩, ⟨m2, m2'⟩, ⟨m3, m3'⟩⟩ := And.intro (mul_bd gx.1 ⟨hn0, hn1⟩) (And.intro (mul_bd gx.2.1 ⟨hn0, hn1⟩) (And.intro (mul_bd gx.2.2.1 ⟨hn0, hn1⟩) (mul_bd gx.2.2.2 ⟨hn0, hn1⟩)))
  obtain ⟨⟨g0, g0'⟩, ⟨g1, g1'⟩, ⟨g2, g2'⟩, ⟨g3, g3'⟩⟩ := gx
  simp only at hz
  go_enter Tryd.func18, Tryd.ntmps18
  go_wp2_with fail
  refine (rgood_x ⟨a, b, c, d⟩ _).mono ?_
  rintro e w1 ⟨rfl, rfl⟩
  go_wp2_with fail
  refine wp_loop_rounds 5 ?_
  repeat any_goals (rw [rounds_succ]; go_wp2_with fail; try (go_region; all_goals go_wp2_with fail))
  refine (rgood_x ⟨a * n, b * n, c * n, d * n⟩ _).mono ?_
  rintro e w3 ⟨rfl, rfl⟩
  go_wp2_with fail
  exact bodyPost_ret (v := .tuple #[.agg #[.int .i64 (a * n), .int .i64 (b * n), .int .i64 (c * n), .int .i64 (d * n)], .int .i64 0]) (by simp [results, Tryd.results18, go_sem]) rfl ⟨rfl, by (repeat' (first | (with_reducible exact Below.refl _ _) | (with_reducible refine below_drewN ?_ _) | (with_reducible refine Below.drew ?_) | (with_reducible refine Below.alloc ?_ ?_ _) | (with_reducible refine Below.setCell ?_ ?_ _) | (with_reducible refine Below.trans ?_ (Below.mono (by with_reducible assumption) ?_)) | omega | (simp only [World.size_alloc] at *; omega) | (with_reducible refine Below.size (B := 0) ?_)))⟩

set_option maxRecDepth 100000 in
set_option maxHeartbeats 800000 in
theorem rscale_over (x : V4) (n : Int) (w : World) (hx : goodV x = true) (hn0 : 0 ≤ n) (hn1 : n ≤ 16) (hz : goodV ⟨x.a * n, x.b * n, x.c * n, x.d * n⟩ = false) :
    Calls Tryd.prog 18 #[.agg #[.int .i64 x.a, .int .i64 x.b, .int .i64 x.c, .int .i64 x.d], .int .i64 n] w fun e w' => e = .returned (.tuple #[.agg #[.int .i64 ((scaleR x n).1).a, .int .i64 ((scaleR x n).1).b, .int .i64 ((scaleR x n).1).c, .int .i64 ((scaleR x n).1).d], .int .i64 ((scaleR x n).2 : Nat)]) ∧ Below w.heap.size w w' := by
  rw [scale_yes hx ⟨hn0, hn1⟩, show checkR _ = _ from if_neg (by rw [hz]; simp)]
  have gx := (good_iff x).1 hx
  obtain ⟨a, b, c, d⟩ := x
  simp only at gx
  obtain ⟨⟨m0, m0'⟩, ⟨m1, m1'⟩, ⟨m2, m2'⟩, ⟨m3, m3'⟩⟩ := And.intro (mul_bd gx.1 ⟨hn0, hn1⟩) (And.intro (mul_bd gx.2.1 ⟨hn0, hn1⟩) (And.intro (mul_bd gx.2.2.1 ⟨hn0, hn1⟩) (mul_bd gx.2.2.2 ⟨hn0, hn1⟩)))
  obtain ⟨⟨g0, g0'⟩, ⟨g1, g1'⟩, ⟨g2, g2'⟩, ⟨g3, g3'⟩⟩ := gx
  simp only at hz
  go_enter Tryd.func18, Tryd.ntmps18
  go_wp2_with fail
  refine (rgood_x ⟨a, b, c, d⟩ _).mono ?_
  rintro e w1 ⟨rfl, rfl⟩
  go_wp2_with fail
  refine wp_loop_rounds 5 ?_
  repeat any_goals (rw [rounds_succ]; go_wp2_with fail; try (go_region; all_goals go_wp2_with fail))
  refine (rgood_x ⟨a * n, b * n, c * n, d * n⟩ _).mono ?_
  rintro e w3 ⟨rfl, rfl⟩
  go_wp2_with fail
  exact bodyPost_ret (v := .tuple #[.agg #[.int .i64 0, .int .i64 0, .int .i64 0, .int .i64 0], .int .i64 4]) (by simp [results, Tryd.results18, go_sem]) rfl ⟨rfl, by (repeat' (first | (with_reducible exact Below.refl _ _) | (with_reducible refine below_drewN ?_ _) | (with_reducible refine Below.drew ?_) | (with_reducible refine Below.alloc ?_ ?_ _) | (with_reducible refine Below.setCell ?_ ?_ _) | (with_reducible refine Below.trans ?_ (Below.mono (by with_reducible assumption) ?_)) | omega | (simp only [World.size_alloc] at *; omega) | (with_reducible refine Below.size (B := 0) ?_)))⟩

theorem rscale_c (x : V4) (n : Int) (w : World) :
    Calls Tryd.prog 18 #[.agg #[.int .i64 x.a, .int .i64 x.b, .int .i64 x.c, .int .i64 x.d], .int .i64 n] w fun e w' => e = .returned (.tuple #[.agg #[.int .i64 ((scaleR x n).1).a, .int .i64 ((scaleR x n).1).b, .int .i64 ((scaleR x n).1).c, .int .i64 ((scaleR x n).1).d], .int .i64 ((scaleR x n).2 : Nat)]) ∧ Below w.heap.size w w' := by
  cases hx : goodV x
  · exact rscale_bad1 x n w hx
  · by_cases h0 : n < 0
    · exact rscale_bad2 x n w hx h0
    · by_cases h1 : 16 < n
      · exact rscale_bad3 x n w hx (by omega) h1
      · cases hz : goodV ⟨x.a * n, x.b * n, x.c * n, x.d * n⟩
        · exact rscale_over x n w hx (by omega) (by omega) hz
        · exact rscale_yes x n w hx (by omega) (by omega) hz

end Go.Proofs.YtbfbhlpibclccaaDoor

/- The reference's table of jobs: Good. No conditions. -/
namespace Go.Proofs.YtbfbhlpibclccaaDoor
open Go Go.RowKit Go.Maps

theorem rin_c (n a b : Int) (w : World) : Calls Tryd.prog 49 #[.int .i64 n, .int .i64 a, .int .i64 b] w fun e w' => e = .returned (.bool (inB n a b)) ∧ w' = w := by
  unfold inB
  by_cases h1 : a ≤ n
  · by_cases h2 : n ≤ b
    · go_enter Tryd.func49, Tryd.ntmps49
      go_wp2
      go_ret
      exact ⟨by simp [h1, h2], rfl⟩
    · go_enter Tryd.func49, Tryd.ntmps49
      go_wp2
      go_ret
      exact ⟨by simp [h2], rfl⟩
  · go_enter Tryd.func49, Tryd.ntmps49
    go_wp2
    go_ret
    exact ⟨by simp; omega, rfl⟩
theorem rgood_b (x : V4) (w : World) : Calls Tryd.prog 46 #[.agg #[.int .i64 x.a, .int .i64 x.b, .int .i64 x.c, .int .i64 x.d]] w fun e w' => e = .returned (.bool (goodV x)) ∧ Below w.heap.size w w' :=
  (rgood_x x w).mono fun _ _ k => ⟨k.1, k.2 ▸ (Below.refl _ _).alloc (Nat.le_refl _) _⟩
set_option maxRecDepth 100000 in
set_option maxHeartbeats 6400000 in
theorem rjgood_n0 (j : JR) (q : Nat → Int) (w : World) (k0 : inB j.id 1 999 = false)  :
    Calls Tryd.prog 22 #[.agg #[.int .i64 j.id, .int .i64 j.tenant, .int .i64 j.cell, .int .i64 j.band, .int .i64 j.tasks, .int .i64 j.need.a, .int .i64 j.need.b, .int .i64 j.need.c, .int .i64 j.need.d, .int .i64 j.first, .int .i64 j.windows, .int .i64 j.budget, .bool j.env, .int .i64 j.set, .int .i64 (q 0), .int .i64 (q 1), .int .i64 (q 2), .int .i64 (q 3), .int .i64 (q 4), .int .i64 (q 5), .int .i64 (q 6), .int .i64 (q 7)]] w fun e w' => e = .returned (.bool false) ∧ Below w.heap.size w w' := by
  obtain ⟨X, hX⟩ : ∃ X, w.heap.size = X := ⟨_, rfl⟩
  obtain ⟨W1, hW1⟩ : ∃ W1, w.alloc (.cells #[.int .i64 j.id, .int .i64 j.tenant, .int .i64 j.cell, .int .i64 j.band, .int .i64 j.tasks, .int .i64 j.need.a, .int .i64 j.need.b, .int .i64 j.need.c, .int .i64 j.need.d, .int .i64 j.first, .int .i64 j.windows, .int .i64 j.budget, .bool j.env, .int .i64 j.set, .int .i64 (q 0), .int .i64 (q 1), .int .i64 (q 2), .int .i64 (q 3), .int .i64 (q 4), .int .i64 (q 5), .int .i64 (q 6), .int .i64 (q 7)] 50) = W1 := ⟨_, rfl⟩
  have hb1 : Below w.heap.size w W1 := by rw [← hW1]; exact (Below.refl _ _).alloc (Nat.le_refl _) _
  have hx1 : W1.heap[X]? = some (.cells #[.int .i64 j.id, .int .i64 j.tenant, .int .i64 j.cell, .int .i64 j.band, .int .i64 j.tasks, .int .i64 j.need.a, .int .i64 j.need.b, .int .i64 j.need.c, .int .i64 j.need.d, .int .i64 j.first, .int .i64 j.windows, .int .i64 j.budget, .bool j.env, .int .i64 j.set, .int .i64 (q 0), .int .i64 (q 1), .int .i64 (q 2), .int .i64 (q 3), .int .i64 (q 4), .int .i64 (q 5), .int .i64 (q 6), .int .i64 (q 7)] 50 (0, 0)) := by rw [← hW1, ← hX]; exact heap_alloc_new _ _
  have x0 := cell_of_heap hx1 0
  have x1 := cell_of_heap hx1 1
  have x2 := cell_of_heap hx1 2
  have x3 := cell_of_heap hx1 3
  have x4 := cell_of_heap hx1 4
  have x5 := cell_of_heap hx1 5
  have x6 := cell_of_heap hx1 6
  have x7 := cell_of_heap hx1 7
  have x8 := cell_of_heap hx1 8
  have x9 := cell_of_heap hx1 9
  have x10 := cell_of_heap hx1 10
  have x11 := cell_of_heap hx1 11
  have x12 := cell_of_heap hx1 12
  have x13 := cell_of_heap hx1 13
  simp at x0 x1 x2 x3 x4 x5 x6 x7 x8 x9 x10 x11 x12 x13
  have HW1 := Lib.hid hW1; have HX := Lib.hid hX; have HB1 := Lib.hid hb1; have HX1 := Lib.hid hx1
  have hq0 := fun W : World => rin_c j.id 1 999 W
  rw [k0] at hq0
  have HQ0 := Lib.hid hq0
  clear hq0 k0
  clear hX hW1 hb1 hx1
  go_enter Tryd.func22, Tryd.ntmps22
  go_upto_region 1 with fail
  rw [HW1.out, HX.out]
  go_wp2_with (first | (go_at_call 49; (with_reducible refine (HQ0.out _).mono ?_); rintro e wx ⟨rfl, rfl⟩) | fail)
  go_ret
  exact ⟨rfl, by first | exact HBX.out | exact HB1.out⟩
set_option maxRecDepth 100000 in
set_option maxHeartbeats 6400000 in
theorem rjgood_n1 (j : JR) (q : Nat → Int) (w : World) (k0 : inB j.id 1 999 = true) (k1 : inB j.tenant 1 999 = false)  :
    Calls Tryd.prog 22 #[.agg #[.int .i64 j.id, .int .i64 j.tenant, .int .i64 j.cell, .int .i64 j.band, .int .i64 j.tasks, .int .i64 j.need.a, .int .i64 j.need.b, .int .i64 j.need.c, .int .i64 j.need.d, .int .i64 j.first, .int .i64 j.windows, .int .i64 j.budget, .bool j.env, .int .i64 j.set, .int .i64 (q 0), .int .i64 (q 1), .int .i64 (q 2), .int .i64 (q 3), .int .i64 (q 4), .int .i64 (q 5), .int .i64 (q 6), .int .i64 (q 7)]] w fun e w' => e = .returned (.bool false) ∧ Below w.heap.size w w' := by
  obtain ⟨X, hX⟩ : ∃ X, w.heap.size = X := ⟨_, rfl⟩
  obtain ⟨W1, hW1⟩ : ∃ W1, w.alloc (.cells #[.int .i64 j.id, .int .i64 j.tenant, .int .i64 j.cell, .int .i64 j.band, .int .i64 j.tasks, .int .i64 j.need.a, .int .i64 j.need.b, .int .i64 j.need.c, .int .i64 j.need.d, .int .i64 j.first, .int .i64 j.windows, .int .i64 j.budget, .bool j.env, .int .i64 j.set, .int .i64 (q 0), .int .i64 (q 1), .int .i64 (q 2), .int .i64 (q 3), .int .i64 (q 4), .int .i64 (q 5), .int .i64 (q 6), .int .i64 (q 7)] 50) = W1 := ⟨_, rfl⟩
  have hb1 : Below w.heap.size w W1 := by rw [← hW1]; exact (Below.refl _ _).alloc (Nat.le_refl _) _
  have hx1 : W1.heap[X]? = some (.cells #[.int .i64 j.id, .int .i64 j.tenant, .int .i64 j.cell, .int .i64 j.band, .int .i64 j.tasks, .int .i64 j.need.a, .int .i64 j.need.b, .int .i64 j.need.c, .int .i64 j.need.d, .int .i64 j.first, .int .i64 j.windows, .int .i64 j.budget, .bool j.env, .int .i64 j.set, .int .i64 (q 0), .int .i64 (q 1), .int .i64 (q 2), .int .i64 (q 3), .int .i64 (q 4), .int .i64 (q 5), .int .i64 (q 6), .int .i64 (q 7)] 50 (0, 0)) := by rw [← hW1, ← hX]; exact heap_alloc_new _ _
  have x0 := cell_of_heap hx1 0
  have x1 := cell_of_heap hx1 1
  have x2 := cell_of_heap hx1 2
  have x3 := cell_of_heap hx1 3
  have x4 := cell_of_heap hx1 4
  have x5 := cell_of_heap hx1 5
  have x6 := cell_of_heap hx1 6
  have x7 := cell_of_heap hx1 7
  have x8 := cell_of_heap hx1 8
  have x9 := cell_of_heap hx1 9
  have x10 := cell_of_heap hx1 10
  have x11 := cell_of_heap hx1 11
  have x12 := cell_of_heap hx1 12
  have x13 := cell_of_heap hx1 13
  simp at x0 x1 x2 x3 x4 x5 x6 x7 x8 x9 x10 x11 x12 x13
  have HW1 := Lib.hid hW1; have HX := Lib.hid hX; have HB1 := Lib.hid hb1; have HX1 := Lib.hid hx1
  have hq0 := fun W : World => rin_c j.id 1 999 W
  rw [k0] at hq0
  have HQ0 := Lib.hid hq0
  clear hq0 k0
  have hq1 := fun W : World => rin_c j.tenant 1 999 W
  rw [k1] at hq1
  have HQ1 := Lib.hid hq1
  clear hq1 k1
  clear hX hW1 hb1 hx1
  go_enter Tryd.func22, Tryd.ntmps22
  go_upto_region 1 with fail
  rw [HW1.out, HX.out]
  go_wp2_with (first | (go_at_call 49; (with_reducible refine (HQ0.out _).mono ?_); rintro e wx ⟨rfl, rfl⟩) | (go_at_call 49; (with_reducible refine (HQ1.out _).mono ?_); rintro e wx ⟨rfl, rfl⟩) | fail)
  go_ret
  exact ⟨rfl, by first | exact HBX.out | exact HB1.out⟩
set_option maxRecDepth 100000 in
set_option maxHeartbeats 6400000 in
theorem rjgood_n2 (j : JR) (q : Nat → Int) (w : World) (k0 : inB j.id 1 999 = true) (k1 : inB j.tenant 1 999 = true) (k2 : inB j.cell 1 4 = false)  :
    Calls Tryd.prog 22 #[.agg #[.int .i64 j.id, .int .i64 j.tenant, .int .i64 j.cell, .int .i64 j.band, .int .i64 j.tasks, .int .i64 j.need.a, .int .i64 j.need.b, .int .i64 j.need.c, .int .i64 j.need.d, .int .i64 j.first, .int .i64 j.windows, .int .i64 j.budget, .bool j.env, .int .i64 j.set, .int .i64 (q 0), .int .i64 (q 1), .int .i64 (q 2), .int .i64 (q 3), .int .i64 (q 4), .int .i64 (q 5), .int .i64 (q 6), .int .i64 (q 7)]] w fun e w' => e = .returned (.bool false) ∧ Below w.heap.size w w' := by
  obtain ⟨X, hX⟩ : ∃ X, w.heap.size = X := ⟨_, rfl⟩
  obtain ⟨W1, hW1⟩ : ∃ W1, w.alloc (.cells #[.int .i64 j.id, .int .i64 j.tenant, .int .i64 j.cell, .int .i64 j.band, .int .i64 j.tasks, .int .i64 j.need.a, .int .i64 j.need.b, .int .i64 j.need.c, .int .i64 j.need.d, .int .i64 j.first, .int .i64 j.windows, .int .i64 j.budget, .bool j.env, .int .i64 j.set, .int .i64 (q 0), .int .i64 (q 1), .int .i64 (q 2), .int .i64 (q 3), .int .i64 (q 4), .int .i64 (q 5), .int .i64 (q 6), .int .i64 (q 7)] 50) = W1 := ⟨_, rfl⟩
  have hb1 : Below w.heap.size w W1 := by rw [← hW1]; exact (Below.refl _ _).alloc (Nat.le_refl _) _
  have hx1 : W1.heap[X]? = some (.cells #[.int .i64 j.id, .int .i64 j.tenant, .int .i64 j.cell, .int .i64 j.band, .int .i64 j.tasks, .int .i64 j.need.a, .int .i64 j.need.b, .int .i64 j.need.c, .int .i64 j.need.d, .int .i64 j.first, .int .i64 j.windows, .int .i64 j.budget, .bool j.env, .int .i64 j.set, .int .i64 (q 0), .int .i64 (q 1), .int .i64 (q 2), .int .i64 (q 3), .int .i64 (q 4), .int .i64 (q 5), .int .i64 (q 6), .int .i64 (q 7)] 50 (0, 0)) := by rw [← hW1, ← hX]; exact heap_alloc_new _ _
  have x0 := cell_of_heap hx1 0
  have x1 := cell_of_heap hx1 1
  have x2 := cell_of_heap hx1 2
  have x3 := cell_of_heap hx1 3
  have x4 := cell_of_heap hx1 4
  have x5 := cell_of_heap hx1 5
  have x6 := cell_of_heap hx1 6
  have x7 := cell_of_heap hx1 7
  have x8 := cell_of_heap hx1 8
  have x9 := cell_of_heap hx1 9
  have x10 := cell_of_heap hx1 10
  have x11 := cell_of_heap hx1 11
  have x12 := cell_of_heap hx1 12
  have x13 := cell_of_heap hx1 13
  simp at x0 x1 x2 x3 x4 x5 x6 x7 x8 x9 x10 x11 x12 x13
  have HW1 := Lib.hid hW1; have HX := Lib.hid hX; have HB1 := Lib.hid hb1; have HX1 := Lib.hid hx1
  have hq0 := fun W : World => rin_c j.id 1 999 W
  rw [k0] at hq0
  have HQ0 := Lib.hid hq0
  clear hq0 k0
  have hq1 := fun W : World => rin_c j.tenant 1 999 W
  rw [k1] at hq1
  have HQ1 := Lib.hid hq1
  clear hq1 k1
  have hq2 := fun W : World => rin_c j.cell 1 4 W
  rw [k2] at hq2
  have HQ2 := Lib.hid hq2
  clear hq2 k2
  clear hX hW1 hb1 hx1
  go_enter Tryd.func22, Tryd.ntmps22
  go_upto_region 1 with fail
  rw [HW1.out, HX.out]
  go_wp2_with (first | (go_at_call 49; (with_reducible refine (HQ0.out _).mono ?_); rintro e wx ⟨rfl, rfl⟩) | (go_at_call 49; (with_reducible refine (HQ1.out _).mono ?_); rintro e wx ⟨rfl, rfl⟩) | (go_at_call 49; (with_reducible refine (HQ2.out _).mono ?_); rintro e wx ⟨rfl, rfl⟩) | fail)
  go_ret
  exact ⟨rfl, by first | exact HBX.out | exact HB1.out⟩
set_option maxRecDepth 100000 in
set_option maxHeartbeats 6400000 in
theorem rjgood_n3 (j : JR) (q : Nat → Int) (w : World) (k0 : inB j.id 1 999 = true) (k1 : inB j.tenant 1 999 = true) (k2 : inB j.cell 1 4 = true) (k3 : inB j.band 0 2 = false)  :
    Calls Tryd.prog 22 #[.agg #[.int .i64 j.id, .int .i64 j.tenant, .int .i64 j.cell, .int .i64 j.band, .int .i64 j.tasks, .int .i64 j.need.a, .int .i64 j.need.b, .int .i64 j.need.c, .int .i64 j.need.d, .int .i64 j.first, .int .i64 j.windows, .int .i64 j.budget, .bool j.env, .int .i64 j.set, .int .i64 (q 0), .int .i64 (q 1), .int .i64 (q 2), .int .i64 (q 3), .int .i64 (q 4), .int .i64 (q 5), .int .i64 (q 6), .int .i64 (q 7)]] w fun e w' => e = .returned (.bool false) ∧ Below w.heap.size w w' := by
  obtain ⟨X, hX⟩ : ∃ X, w.heap.size = X := ⟨_, rfl⟩
  obtain ⟨W1, hW1⟩ : ∃ W1, w.alloc (.cells #[.int .i64 j.id, .int .i64 j.tenant, .int .i64 j.cell, .int .i64 j.band, .int .i64 j.tasks, .int .i64 j.need.a, .int .i64 j.need.b, .int .i64 j.need.c, .int .i64 j.need.d, .int .i64 j.first, .int .i64 j.windows, .int .i64 j.budget, .bool j.env, .int .i64 j.set, .int .i64 (q 0), .int .i64 (q 1), .int .i64 (q 2), .int .i64 (q 3), .int .i64 (q 4), .int .i64 (q 5), .int .i64 (q 6), .int .i64 (q 7)] 50) = W1 := ⟨_, rfl⟩
  have hb1 : Below w.heap.size w W1 := by rw [← hW1]; exact (Below.refl _ _).alloc (Nat.le_refl _) _
  have hx1 : W1.heap[X]? = some (.cells #[.int .i64 j.id, .int .i64 j.tenant, .int .i64 j.cell, .int .i64 j.band, .int .i64 j.tasks, .int .i64 j.need.a, .int .i64 j.need.b, .int .i64 j.need.c, .int .i64 j.need.d, .int .i64 j.first, .int .i64 j.windows, .int .i64 j.budget, .bool j.env, .int .i64 j.set, .int .i64 (q 0), .int .i64 (q 1), .int .i64 (q 2), .int .i64 (q 3), .int .i64 (q 4), .int .i64 (q 5), .int .i64 (q 6), .int .i64 (q 7)] 50 (0, 0)) := by rw [← hW1, ← hX]; exact heap_alloc_new _ _
  have x0 := cell_of_heap hx1 0
  have x1 := cell_of_heap hx1 1
  have x2 := cell_of_heap hx1 2
  have x3 := cell_of_heap hx1 3
  have x4 := cell_of_heap hx1 4
  have x5 := cell_of_heap hx1 5
  have x6 := cell_of_heap hx1 6
  have x7 := cell_of_heap hx1 7
  have x8 := cell_of_heap hx1 8
  have x9 := cell_of_heap hx1 9
  have x10 := cell_of_heap hx1 10
  have x11 := cell_of_heap hx1 11
  have x12 := cell_of_heap hx1 12
  have x13 := cell_of_heap hx1 13
  simp at x0 x1 x2 x3 x4 x5 x6 x7 x8 x9 x10 x11 x12 x13
  have HW1 := Lib.hid hW1; have HX := Lib.hid hX; have HB1 := Lib.hid hb1; have HX1 := Lib.hid hx1
  have hq0 := fun W : World => rin_c j.id 1 999 W
  rw [k0] at hq0
  have HQ0 := Lib.hid hq0
  clear hq0 k0
  have hq1 := fun W : World => rin_c j.tenant 1 999 W
  rw [k1] at hq1
  have HQ1 := Lib.hid hq1
  clear hq1 k1
  have hq2 := fun W : World => rin_c j.cell 1 4 W
  rw [k2] at hq2
  have HQ2 := Lib.hid hq2
  clear hq2 k2
  have hq3 := fun W : World => rin_c j.band 0 2 W
  rw [k3] at hq3
  have HQ3 := Lib.hid hq3
  clear hq3 k3
  clear hX hW1 hb1 hx1
  go_enter Tryd.func22, Tryd.ntmps22
  go_upto_region 1 with fail
  rw [HW1.out, HX.out]
  go_wp2_with (first | (go_at_call 49; (with_reducible refine (HQ0.out _).mono ?_); rintro e wx ⟨rfl, rfl⟩) | (go_at_call 49; (with_reducible refine (HQ1.out _).mono ?_); rintro e wx ⟨rfl, rfl⟩) | (go_at_call 49; (with_reducible refine (HQ2.out _).mono ?_); rintro e wx ⟨rfl, rfl⟩) | (go_at_call 49; (with_reducible refine (HQ3.out _).mono ?_); rintro e wx ⟨rfl, rfl⟩) | fail)
  go_ret
  exact ⟨rfl, by first | exact HBX.out | exact HB1.out⟩
set_option maxRecDepth 100000 in
set_option maxHeartbeats 6400000 in
theorem rjgood_n4 (j : JR) (q : Nat → Int) (w : World) (k0 : inB j.id 1 999 = true) (k1 : inB j.tenant 1 999 = true) (k2 : inB j.cell 1 4 = true) (k3 : inB j.band 0 2 = true) (k4 : inB j.tasks 1 8 = false)  :
    Calls Tryd.prog 22 #[.agg #[.int .i64 j.id, .int .i64 j.tenant, .int .i64 j.cell, .int .i64 j.band, .int .i64 j.tasks, .int .i64 j.need.a, .int .i64 j.need.b, .int .i64 j.need.c, .int .i64 j.need.d, .int .i64 j.first, .int .i64 j.windows, .int .i64 j.budget, .bool j.env, .int .i64 j.set, .int .i64 (q 0), .int .i64 (q 1), .int .i64 (q 2), .int .i64 (q 3), .int .i64 (q 4), .int .i64 (q 5), .int .i64 (q 6), .int .i64 (q 7)]] w fun e w' => e = .returned (.bool false) ∧ Below w.heap.size w w' := by
  obtain ⟨X, hX⟩ : ∃ X, w.heap.size = X := ⟨_, rfl⟩
  obtain ⟨W1, hW1⟩ : ∃ W1, w.alloc (.cells #[.int .i64 j.id, .int .i64 j.tenant, .int .i64 j.cell, .int .i64 j.band, .int .i64 j.tasks, .int .i64 j.need.a, .int .i64 j.need.b, .int .i64 j.need.c, .int .i64 j.need.d, .int .i64 j.first, .int .i64 j.windows, .int .i64 j.budget, .bool j.env, .int .i64 j.set, .int .i64 (q 0), .int .i64 (q 1), .int .i64 (q 2), .int .i64 (q 3), .int .i64 (q 4), .int .i64 (q 5), .int .i64 (q 6), .int .i64 (q 7)] 50) = W1 := ⟨_, rfl⟩
  have hb1 : Below w.heap.size w W1 := by rw [← hW1]; exact (Below.refl _ _).alloc (Nat.le_refl _) _
  have hx1 : W1.heap[X]? = some (.cells #[.int .i64 j.id, .int .i64 j.tenant, .int .i64 j.cell, .int .i64 j.band, .int .i64 j.tasks, .int .i64 j.need.a, .int .i64 j.need.b, .int .i64 j.need.c, .int .i64 j.need.d, .int .i64 j.first, .int .i64 j.windows, .int .i64 j.budget, .bool j.env, .int .i64 j.set, .int .i64 (q 0), .int .i64 (q 1), .int .i64 (q 2), .int .i64 (q 3), .int .i64 (q 4), .int .i64 (q 5), .int .i64 (q 6), .int .i64 (q 7)] 50 (0, 0)) := by rw [← hW1, ← hX]; exact heap_alloc_new _ _
  have x0 := cell_of_heap hx1 0
  have x1 := cell_of_heap hx1 1
  have x2 := cell_of_heap hx1 2
  have x3 := cell_of_heap hx1 3
  have x4 := cell_of_heap hx1 4
  have x5 := cell_of_heap hx1 5
  have x6 := cell_of_heap hx1 6
  have x7 := cell_of_heap hx1 7
  have x8 := cell_of_heap hx1 8
  have x9 := cell_of_heap hx1 9
  have x10 := cell_of_heap hx1 10
  have x11 := cell_of_heap hx1 11
  have x12 := cell_of_heap hx1 12
  have x13 := cell_of_heap hx1 13
  simp at x0 x1 x2 x3 x4 x5 x6 x7 x8 x9 x10 x11 x12 x13
  have HW1 := Lib.hid hW1; have HX := Lib.hid hX; have HB1 := Lib.hid hb1; have HX1 := Lib.hid hx1
  have hq0 := fun W : World => rin_c j.id 1 999 W
  rw [k0] at hq0
  have HQ0 := Lib.hid hq0
  clear hq0 k0
  have hq1 := fun W : World => rin_c j.tenant 1 999 W
  rw [k1] at hq1
  have HQ1 := Lib.hid hq1
  clear hq1 k1
  have hq2 := fun W : World => rin_c j.cell 1 4 W
  rw [k2] at hq2
  have HQ2 := Lib.hid hq2
  clear hq2 k2
  have hq3 := fun W : World => rin_c j.band 0 2 W
  rw [k3] at hq3
  have HQ3 := Lib.hid hq3
  clear hq3 k3
  have hq4 := fun W : World => rin_c j.tasks 1 8 W
  rw [k4] at hq4
  have HQ4 := Lib.hid hq4
  clear hq4 k4
  clear hX hW1 hb1 hx1
  go_enter Tryd.func22, Tryd.ntmps22
  go_upto_region 1 with fail
  rw [HW1.out, HX.out]
  go_wp2_with (first | (go_at_call 49; (with_reducible refine (HQ0.out _).mono ?_); rintro e wx ⟨rfl, rfl⟩) | (go_at_call 49; (with_reducible refine (HQ1.out _).mono ?_); rintro e wx ⟨rfl, rfl⟩) | (go_at_call 49; (with_reducible refine (HQ2.out _).mono ?_); rintro e wx ⟨rfl, rfl⟩) | (go_at_call 49; (with_reducible refine (HQ3.out _).mono ?_); rintro e wx ⟨rfl, rfl⟩) | (go_at_call 49; (with_reducible refine (HQ4.out _).mono ?_); rintro e wx ⟨rfl, rfl⟩) | fail)
  go_ret
  exact ⟨rfl, by first | exact HBX.out | exact HB1.out⟩
set_option maxRecDepth 100000 in
set_option maxHeartbeats 6400000 in
theorem rjgood_n5 (j : JR) (q : Nat → Int) (w : World) (k0 : inB j.id 1 999 = true) (k1 : inB j.tenant 1 999 = true) (k2 : inB j.cell 1 4 = true) (k3 : inB j.band 0 2 = true) (k4 : inB j.tasks 1 8 = true) (k5 : goodV j.need = false)  :
    Calls Tryd.prog 22 #[.agg #[.int .i64 j.id, .int .i64 j.tenant, .int .i64 j.cell, .int .i64 j.band, .int .i64 j.tasks, .int .i64 j.need.a, .int .i64 j.need.b, .int .i64 j.need.c, .int .i64 j.need.d, .int .i64 j.first, .int .i64 j.windows, .int .i64 j.budget, .bool j.env, .int .i64 j.set, .int .i64 (q 0), .int .i64 (q 1), .int .i64 (q 2), .int .i64 (q 3), .int .i64 (q 4), .int .i64 (q 5), .int .i64 (q 6), .int .i64 (q 7)]] w fun e w' => e = .returned (.bool false) ∧ Below w.heap.size w w' := by
  obtain ⟨X, hX⟩ : ∃ X, w.heap.size = X := ⟨_, rfl⟩
  obtain ⟨W1, hW1⟩ : ∃ W1, w.alloc (.cells #[.int .i64 j.id, .int .i64 j.tenant, .int .i64 j.cell, .int .i64 j.band, .int .i64 j.tasks, .int .i64 j.need.a, .int .i64 j.need.b, .int .i64 j.need.c, .int .i64 j.need.d, .int .i64 j.first, .int .i64 j.windows, .int .i64 j.budget, .bool j.env, .int .i64 j.set, .int .i64 (q 0), .int .i64 (q 1), .int .i64 (q 2), .int .i64 (q 3), .int .i64 (q 4), .int .i64 (q 5), .int .i64 (q 6), .int .i64 (q 7)] 50) = W1 := ⟨_, rfl⟩
  have hb1 : Below w.heap.size w W1 := by rw [← hW1]; exact (Below.refl _ _).alloc (Nat.le_refl _) _
  have hx1 : W1.heap[X]? = some (.cells #[.int .i64 j.id, .int .i64 j.tenant, .int .i64 j.cell, .int .i64 j.band, .int .i64 j.tasks, .int .i64 j.need.a, .int .i64 j.need.b, .int .i64 j.need.c, .int .i64 j.need.d, .int .i64 j.first, .int .i64 j.windows, .int .i64 j.budget, .bool j.env, .int .i64 j.set, .int .i64 (q 0), .int .i64 (q 1), .int .i64 (q 2), .int .i64 (q 3), .int .i64 (q 4), .int .i64 (q 5), .int .i64 (q 6), .int .i64 (q 7)] 50 (0, 0)) := by rw [← hW1, ← hX]; exact heap_alloc_new _ _
  have x0 := cell_of_heap hx1 0
  have x1 := cell_of_heap hx1 1
  have x2 := cell_of_heap hx1 2
  have x3 := cell_of_heap hx1 3
  have x4 := cell_of_heap hx1 4
  have x5 := cell_of_heap hx1 5
  have x6 := cell_of_heap hx1 6
  have x7 := cell_of_heap hx1 7
  have x8 := cell_of_heap hx1 8
  have x9 := cell_of_heap hx1 9
  have x10 := cell_of_heap hx1 10
  have x11 := cell_of_heap hx1 11
  have x12 := cell_of_heap hx1 12
  have x13 := cell_of_heap hx1 13
  simp at x0 x1 x2 x3 x4 x5 x6 x7 x8 x9 x10 x11 x12 x13
  have HW1 := Lib.hid hW1; have HX := Lib.hid hX; have HB1 := Lib.hid hb1; have HX1 := Lib.hid hx1
  have hq0 := fun W : World => rin_c j.id 1 999 W
  rw [k0] at hq0
  have HQ0 := Lib.hid hq0
  clear hq0 k0
  have hq1 := fun W : World => rin_c j.tenant 1 999 W
  rw [k1] at hq1
  have HQ1 := Lib.hid hq1
  clear hq1 k1
  have hq2 := fun W : World => rin_c j.cell 1 4 W
  rw [k2] at hq2
  have HQ2 := Lib.hid hq2
  clear hq2 k2
  have hq3 := fun W : World => rin_c j.band 0 2 W
  rw [k3] at hq3
  have HQ3 := Lib.hid hq3
  clear hq3 k3
  have hq4 := fun W : World => rin_c j.tasks 1 8 W
  rw [k4] at hq4
  have HQ4 := Lib.hid hq4
  clear hq4 k4
  have hq5 := fun W : World => rgood_b j.need W
  rw [k5] at hq5
  have HQ5 := Lib.hid hq5
  clear hq5 k5
  clear hX hW1 hb1 hx1
  go_enter Tryd.func22, Tryd.ntmps22
  go_upto_region 1 with fail
  rw [HW1.out, HX.out]
  go_wp2_with (first | (go_at_call 49; (with_reducible refine (HQ0.out _).mono ?_); rintro e wx ⟨rfl, rfl⟩) | (go_at_call 49; (with_reducible refine (HQ1.out _).mono ?_); rintro e wx ⟨rfl, rfl⟩) | (go_at_call 49; (with_reducible refine (HQ2.out _).mono ?_); rintro e wx ⟨rfl, rfl⟩) | (go_at_call 49; (with_reducible refine (HQ3.out _).mono ?_); rintro e wx ⟨rfl, rfl⟩) | (go_at_call 49; (with_reducible refine (HQ4.out _).mono ?_); rintro e wx ⟨rfl, rfl⟩) | (go_at_call 46; (with_reducible refine (HQ5.out _).mono ?_); rintro e wx ⟨rfl, hbx⟩; have hxx := (hbx.block X (lt_of_row HX1.out)).trans HX1.out; clear x0 x1 x2 x3 x4 x5 x6 x7 x8 x9 x10 x11 x12 x13; have x4 := cell_of_heap hxx 4; have x5 := cell_of_heap hxx 5; have x6 := cell_of_heap hxx 6; have x7 := cell_of_heap hxx 7; have x8 := cell_of_heap hxx 8; have x9 := cell_of_heap hxx 9; have x10 := cell_of_heap hxx 10; have x11 := cell_of_heap hxx 11; have x12 := cell_of_heap hxx 12; have x13 := cell_of_heap hxx 13; simp at x4 x5 x6 x7 x8 x9 x10 x11 x12 x13; have HBX := Lib.hid (HB1.out.trans (hbx.mono HB1.out.size)); clear hbx hxx) | fail)
  go_ret
  exact ⟨rfl, by first | exact HBX.out | exact HB1.out⟩
set_option maxRecDepth 100000 in
set_option maxHeartbeats 6400000 in
theorem rjgood_n6 (j : JR) (q : Nat → Int) (w : World) (k0 : inB j.id 1 999 = true) (k1 : inB j.tenant 1 999 = true) (k2 : inB j.cell 1 4 = true) (k3 : inB j.band 0 2 = true) (k4 : inB j.tasks 1 8 = true) (k5 : goodV j.need = true) (k6 : inB j.first 0 1073741824 = false)  :
    Calls Tryd.prog 22 #[.agg #[.int .i64 j.id, .int .i64 j.tenant, .int .i64 j.cell, .int .i64 j.band, .int .i64 j.tasks, .int .i64 j.need.a, .int .i64 j.need.b, .int .i64 j.need.c, .int .i64 j.need.d, .int .i64 j.first, .int .i64 j.windows, .int .i64 j.budget, .bool j.env, .int .i64 j.set, .int .i64 (q 0), .int .i64 (q 1), .int .i64 (q 2), .int .i64 (q 3), .int .i64 (q 4), .int .i64 (q 5), .int .i64 (q 6), .int .i64 (q 7)]] w fun e w' => e = .returned (.bool false) ∧ Below w.heap.size w w' := by
  obtain ⟨X, hX⟩ : ∃ X, w.heap.size = X := ⟨_, rfl⟩
  obtain ⟨W1, hW1⟩ : ∃ W1, w.alloc (.cells #[.int .i64 j.id, .int .i64 j.tenant, .int .i64 j.cell, .int .i64 j.band, .int .i64 j.tasks, .int .i64 j.need.a, .int .i64 j.need.b, .int .i64 j.need.c, .int .i64 j.need.d, .int .i64 j.first, .int .i64 j.windows, .int .i64 j.budget, .bool j.env, .int .i64 j.set, .int .i64 (q 0), .int .i64 (q 1), .int .i64 (q 2), .int .i64 (q 3), .int .i64 (q 4), .int .i64 (q 5), .int .i64 (q 6), .int .i64 (q 7)] 50) = W1 := ⟨_, rfl⟩
  have hb1 : Below w.heap.size w W1 := by rw [← hW1]; exact (Below.refl _ _).alloc (Nat.le_refl _) _
  have hx1 : W1.heap[X]? = some (.cells #[.int .i64 j.id, .int .i64 j.tenant, .int .i64 j.cell, .int .i64 j.band, .int .i64 j.tasks, .int .i64 j.need.a, .int .i64 j.need.b, .int .i64 j.need.c, .int .i64 j.need.d, .int .i64 j.first, .int .i64 j.windows, .int .i64 j.budget, .bool j.env, .int .i64 j.set, .int .i64 (q 0), .int .i64 (q 1), .int .i64 (q 2), .int .i64 (q 3), .int .i64 (q 4), .int .i64 (q 5), .int .i64 (q 6), .int .i64 (q 7)] 50 (0, 0)) := by rw [← hW1, ← hX]; exact heap_alloc_new _ _
  have x0 := cell_of_heap hx1 0
  have x1 := cell_of_heap hx1 1
  have x2 := cell_of_heap hx1 2
  have x3 := cell_of_heap hx1 3
  have x4 := cell_of_heap hx1 4
  have x5 := cell_of_heap hx1 5
  have x6 := cell_of_heap hx1 6
  have x7 := cell_of_heap hx1 7
  have x8 := cell_of_heap hx1 8
  have x9 := cell_of_heap hx1 9
  have x10 := cell_of_heap hx1 10
  have x11 := cell_of_heap hx1 11
  have x12 := cell_of_heap hx1 12
  have x13 := cell_of_heap hx1 13
  simp at x0 x1 x2 x3 x4 x5 x6 x7 x8 x9 x10 x11 x12 x13
  have HW1 := Lib.hid hW1; have HX := Lib.hid hX; have HB1 := Lib.hid hb1; have HX1 := Lib.hid hx1
  have hq0 := fun W : World => rin_c j.id 1 999 W
  rw [k0] at hq0
  have HQ0 := Lib.hid hq0
  clear hq0 k0
  have hq1 := fun W : World => rin_c j.tenant 1 999 W
  rw [k1] at hq1
  have HQ1 := Lib.hid hq1
  clear hq1 k1
  have hq2 := fun W : World => rin_c j.cell 1 4 W
  rw [k2] at hq2
  have HQ2 := Lib.hid hq2
  clear hq2 k2
  have hq3 := fun W : World => rin_c j.band 0 2 W
  rw [k3] at hq3
  have HQ3 := Lib.hid hq3
  clear hq3 k3
  have hq4 := fun W : World => rin_c j.tasks 1 8 W
  rw [k4] at hq4
  have HQ4 := Lib.hid hq4
  clear hq4 k4
  have hq5 := fun W : World => rgood_b j.need W
  rw [k5] at hq5
  have HQ5 := Lib.hid hq5
  clear hq5 k5
  have hq6 := fun W : World => rin_c j.first 0 1073741824 W
  rw [k6] at hq6
  have HQ6 := Lib.hid hq6
  clear hq6 k6
  clear hX hW1 hb1 hx1
  go_enter Tryd.func22, Tryd.ntmps22
  go_upto_region 1 with fail
  rw [HW1.out, HX.out]
  go_wp2_with (first | (go_at_call 49; (with_reducible refine (HQ0.out _).mono ?_); rintro e wx ⟨rfl, rfl⟩) | (go_at_call 49; (with_reducible refine (HQ1.out _).mono ?_); rintro e wx ⟨rfl, rfl⟩) | (go_at_call 49; (with_reducible refine (HQ2.out _).mono ?_); rintro e wx ⟨rfl, rfl⟩) | (go_at_call 49; (with_reducible refine (HQ3.out _).mono ?_); rintro e wx ⟨rfl, rfl⟩) | (go_at_call 49; (with_reducible refine (HQ4.out _).mono ?_); rintro e wx ⟨rfl, rfl⟩) | (go_at_call 46; (with_reducible refine (HQ5.out _).mono ?_); rintro e wx ⟨rfl, hbx⟩; have hxx := (hbx.block X (lt_of_row HX1.out)).trans HX1.out; clear x0 x1 x2 x3 x4 x5 x6 x7 x8 x9 x10 x11 x12 x13; have x4 := cell_of_heap hxx 4; have x5 := cell_of_heap hxx 5; have x6 := cell_of_heap hxx 6; have x7 := cell_of_heap hxx 7; have x8 := cell_of_heap hxx 8; have x9 := cell_of_heap hxx 9; have x10 := cell_of_heap hxx 10; have x11 := cell_of_heap hxx 11; have x12 := cell_of_heap hxx 12; have x13 := cell_of_heap hxx 13; simp at x4 x5 x6 x7 x8 x9 x10 x11 x12 x13; have HBX := Lib.hid (HB1.out.trans (hbx.mono HB1.out.size)); clear hbx hxx) | (go_at_call 49; (with_reducible refine (HQ6.out _).mono ?_); rintro e wx ⟨rfl, rfl⟩) | fail)
  go_ret
  exact ⟨rfl, by first | exact HBX.out | exact HB1.out⟩
set_option maxRecDepth 100000 in
set_option maxHeartbeats 6400000 in
theorem rjgood_n7 (j : JR) (q : Nat → Int) (w : World) (k0 : inB j.id 1 999 = true) (k1 : inB j.tenant 1 999 = true) (k2 : inB j.cell 1 4 = true) (k3 : inB j.band 0 2 = true) (k4 : inB j.tasks 1 8 = true) (k5 : goodV j.need = true) (k6 : inB j.first 0 1073741824 = true) (k7 : inB j.windows 1 8 = false)  :
    Calls Tryd.prog 22 #[.agg #[.int .i64 j.id, .int .i64 j.tenant, .int .i64 j.cell, .int .i64 j.band, .int .i64 j.tasks, .int .i64 j.need.a, .int .i64 j.need.b, .int .i64 j.need.c, .int .i64 j.need.d, .int .i64 j.first, .int .i64 j.windows, .int .i64 j.budget, .bool j.env, .int .i64 j.set, .int .i64 (q 0), .int .i64 (q 1), .int .i64 (q 2), .int .i64 (q 3), .int .i64 (q 4), .int .i64 (q 5), .int .i64 (q 6), .int .i64 (q 7)]] w fun e w' => e = .returned (.bool false) ∧ Below w.heap.size w w' := by
  obtain ⟨X, hX⟩ : ∃ X, w.heap.size = X := ⟨_, rfl⟩
  obtain ⟨W1, hW1⟩ : ∃ W1, w.alloc (.cells #[.int .i64 j.id, .int .i64 j.tenant, .int .i64 j.cell, .int .i64 j.band, .int .i64 j.tasks, .int .i64 j.need.a, .int .i64 j.need.b, .int .i64 j.need.c, .int .i64 j.need.d, .int .i64 j.first, .int .i64 j.windows, .int .i64 j.budget, .bool j.env, .int .i64 j.set, .int .i64 (q 0), .int .i64 (q 1), .int .i64 (q 2), .int .i64 (q 3), .int .i64 (q 4), .int .i64 (q 5), .int .i64 (q 6), .int .i64 (q 7)] 50) = W1 := ⟨_, rfl⟩
  have hb1 : Below w.heap.size w W1 := by rw [← hW1]; exact (Below.refl _ _).alloc (Nat.le_refl _) _
  have hx1 : W1.heap[X]? = some (.cells #[.int .i64 j.id, .int .i64 j.tenant, .int .i64 j.cell, .int .i64 j.band, .int .i64 j.tasks, .int .i64 j.need.a, .int .i64 j.need.b, .int .i64 j.need.c, .int .i64 j.need.d, .int .i64 j.first, .int .i64 j.windows, .int .i64 j.budget, .bool j.env, .int .i64 j.set, .int .i64 (q 0), .int .i64 (q 1), .int .i64 (q 2), .int .i64 (q 3), .int .i64 (q 4), .int .i64 (q 5), .int .i64 (q 6), .int .i64 (q 7)] 50 (0, 0)) := by rw [← hW1, ← hX]; exact heap_alloc_new _ _
  have x0 := cell_of_heap hx1 0
  have x1 := cell_of_heap hx1 1
  have x2 := cell_of_heap hx1 2
  have x3 := cell_of_heap hx1 3
  have x4 := cell_of_heap hx1 4
  have x5 := cell_of_heap hx1 5
  have x6 := cell_of_heap hx1 6
  have x7 := cell_of_heap hx1 7
  have x8 := cell_of_heap hx1 8
  have x9 := cell_of_heap hx1 9
  have x10 := cell_of_heap hx1 10
  have x11 := cell_of_heap hx1 11
  have x12 := cell_of_heap hx1 12
  have x13 := cell_of_heap hx1 13
  simp at x0 x1 x2 x3 x4 x5 x6 x7 x8 x9 x10 x11 x12 x13
  have HW1 := Lib.hid hW1; have HX := Lib.hid hX; have HB1 := Lib.hid hb1; have HX1 := Lib.hid hx1
  have hq0 := fun W : World => rin_c j.id 1 999 W
  rw [k0] at hq0
  have HQ0 := Lib.hid hq0
  clear hq0 k0
  have hq1 := fun W : World => rin_c j.tenant 1 999 W
  rw [k1] at hq1
  have HQ1 := Lib.hid hq1
  clear hq1 k1
  have hq2 := fun W : World => rin_c j.cell 1 4 W
  rw [k2] at hq2
  have HQ2 := Lib.hid hq2
  clear hq2 k2
  have hq3 := fun W : World => rin_c j.band 0 2 W
  rw [k3] at hq3
  have HQ3 := Lib.hid hq3
  clear hq3 k3
  have hq4 := fun W : World => rin_c j.tasks 1 8 W
  rw [k4] at hq4
  have HQ4 := Lib.hid hq4
  clear hq4 k4
  have hq5 := fun W : World => rgood_b j.need W
  rw [k5] at hq5
  have HQ5 := Lib.hid hq5
  clear hq5 k5
  have hq6 := fun W : World => rin_c j.first 0 1073741824 W
  rw [k6] at hq6
  have HQ6 := Lib.hid hq6
  clear hq6 k6
  have hq7 := fun W : World => rin_c j.windows 1 8 W
  rw [k7] at hq7
  have HQ7 := Lib.hid hq7
  clear hq7 k7
  clear hX hW1 hb1 hx1
  go_enter Tryd.func22, Tryd.ntmps22
  go_upto_region 1 with fail
  rw [HW1.out, HX.out]
  go_wp2_with (first | (go_at_call 49; (with_reducible refine (HQ0.out _).mono ?_); rintro e wx ⟨rfl, rfl⟩) | (go_at_call 49; (with_reducible refine (HQ1.out _).mono ?_); rintro e wx ⟨rfl, rfl⟩) | (go_at_call 49; (with_reducible refine (HQ2.out _).mono ?_); rintro e wx ⟨rfl, rfl⟩) | (go_at_call 49; (with_reducible refine (HQ3.out _).mono ?_); rintro e wx ⟨rfl, rfl⟩) | (go_at_call 49; (with_reducible refine (HQ4.out _).mono ?_); rintro e wx ⟨rfl, rfl⟩) | (go_at_call 46; (with_reducible refine (HQ5.out _).mono ?_); rintro e wx ⟨rfl, hbx⟩; have hxx := (hbx.block X (lt_of_row HX1.out)).trans HX1.out; clear x0 x1 x2 x3 x4 x5 x6 x7 x8 x9 x10 x11 x12 x13; have x4 := cell_of_heap hxx 4; have x5 := cell_of_heap hxx 5; have x6 := cell_of_heap hxx 6; have x7 := cell_of_heap hxx 7; have x8 := cell_of_heap hxx 8; have x9 := cell_of_heap hxx 9; have x10 := cell_of_heap hxx 10; have x11 := cell_of_heap hxx 11; have x12 := cell_of_heap hxx 12; have x13 := cell_of_heap hxx 13; simp at x4 x5 x6 x7 x8 x9 x10 x11 x12 x13; have HBX := Lib.hid (HB1.out.trans (hbx.mono HB1.out.size)); clear hbx hxx) | (go_at_call 49; (with_reducible refine (HQ6.out _).mono ?_); rintro e wx ⟨rfl, rfl⟩) | (go_at_call 49; (with_reducible refine (HQ7.out _).mono ?_); rintro e wx ⟨rfl, rfl⟩) | fail)
  go_ret
  exact ⟨rfl, by first | exact HBX.out | exact HB1.out⟩
set_option maxRecDepth 100000 in
set_option maxHeartbeats 6400000 in
theorem rjgood_n8 (j : JR) (q : Nat → Int) (w : World) (k0 : inB j.id 1 999 = true) (k1 : inB j.tenant 1 999 = true) (k2 : inB j.cell 1 4 = true) (k3 : inB j.band 0 2 = true) (k4 : inB j.tasks 1 8 = true) (k5 : goodV j.need = true) (k6 : inB j.first 0 1073741824 = true) (k7 : inB j.windows 1 8 = true) (k8 : inB j.budget 0 100 = false)  :
    Calls Tryd.prog 22 #[.agg #[.int .i64 j.id, .int .i64 j.tenant, .int .i64 j.cell, .int .i64 j.band, .int .i64 j.tasks, .int .i64 j.need.a, .int .i64 j.need.b, .int .i64 j.need.c, .int .i64 j.need.d, .int .i64 j.first, .int .i64 j.windows, .int .i64 j.budget, .bool j.env, .int .i64 j.set, .int .i64 (q 0), .int .i64 (q 1), .int .i64 (q 2), .int .i64 (q 3), .int .i64 (q 4), .int .i64 (q 5), .int .i64 (q 6), .int .i64 (q 7)]] w fun e w' => e = .returned (.bool false) ∧ Below w.heap.size w w' := by
  obtain ⟨X, hX⟩ : ∃ X, w.heap.size = X := ⟨_, rfl⟩
  obtain ⟨W1, hW1⟩ : ∃ W1, w.alloc (.cells #[.int .i64 j.id, .int .i64 j.tenant, .int .i64 j.cell, .int .i64 j.band, .int .i64 j.tasks, .int .i64 j.need.a, .int .i64 j.need.b, .int .i64 j.need.c, .int .i64 j.need.d, .int .i64 j.first, .int .i64 j.windows, .int .i64 j.budget, .bool j.env, .int .i64 j.set, .int .i64 (q 0), .int .i64 (q 1), .int .i64 (q 2), .int .i64 (q 3), .int .i64 (q 4), .int .i64 (q 5), .int .i64 (q 6), .int .i64 (q 7)] 50) = W1 := ⟨_, rfl⟩
  have hb1 : Below w.heap.size w W1 := by rw [← hW1]; exact (Below.refl _ _).alloc (Nat.le_refl _) _
  have hx1 : W1.heap[X]? = some (.cells #[.int .i64 j.id, .int .i64 j.tenant, .int .i64 j.cell, .int .i64 j.band, .int .i64 j.tasks, .int .i64 j.need.a, .int .i64 j.need.b, .int .i64 j.need.c, .int .i64 j.need.d, .int .i64 j.first, .int .i64 j.windows, .int .i64 j.budget, .bool j.env, .int .i64 j.set, .int .i64 (q 0), .int .i64 (q 1), .int .i64 (q 2), .int .i64 (q 3), .int .i64 (q 4), .int .i64 (q 5), .int .i64 (q 6), .int .i64 (q 7)] 50 (0, 0)) := by rw [← hW1, ← hX]; exact heap_alloc_new _ _
  have x0 := cell_of_heap hx1 0
  have x1 := cell_of_heap hx1 1
  have x2 := cell_of_heap hx1 2
  have x3 := cell_of_heap hx1 3
  have x4 := cell_of_heap hx1 4
  have x5 := cell_of_heap hx1 5
  have x6 := cell_of_heap hx1 6
  have x7 := cell_of_heap hx1 7
  have x8 := cell_of_heap hx1 8
  have x9 := cell_of_heap hx1 9
  have x10 := cell_of_heap hx1 10
  have x11 := cell_of_heap hx1 11
  have x12 := cell_of_heap hx1 12
  have x13 := cell_of_heap hx1 13
  simp at x0 x1 x2 x3 x4 x5 x6 x7 x8 x9 x10 x11 x12 x13
  have HW1 := Lib.hid hW1; have HX := Lib.hid hX; have HB1 := Lib.hid hb1; have HX1 := Lib.hid hx1
  have hq0 := fun W : World => rin_c j.id 1 999 W
  rw [k0] at hq0
  have HQ0 := Lib.hid hq0
  clear hq0 k0
  have hq1 := fun W : World => rin_c j.tenant 1 999 W
  rw [k1] at hq1
  have HQ1 := Lib.hid hq1
  clear hq1 k1
  have hq2 := fun W : World => rin_c j.cell 1 4 W
  rw [k2] at hq2
  have HQ2 := Lib.hid hq2
  clear hq2 k2
  have hq3 := fun W : World => rin_c j.band 0 2 W
  rw [k3] at hq3
  have HQ3 := Lib.hid hq3
  clear hq3 k3
  have hq4 := fun W : World => rin_c j.tasks 1 8 W
  rw [k4] at hq4
  have HQ4 := Lib.hid hq4
  clear hq4 k4
  have hq5 := fun W : World => rgood_b j.need W
  rw [k5] at hq5
  have HQ5 := Lib.hid hq5
  clear hq5 k5
  have hq6 := fun W : World => rin_c j.first 0 1073741824 W
  rw [k6] at hq6
  have HQ6 := Lib.hid hq6
  clear hq6 k6
  have hq7 := fun W : World => rin_c j.windows 1 8 W
  rw [k7] at hq7
  have HQ7 := Lib.hid hq7
  clear hq7 k7
  have hq8 := fun W : World => rin_c j.budget 0 100 W
  rw [k8] at hq8
  have HQ8 := Lib.hid hq8
  clear hq8 k8
  clear hX hW1 hb1 hx1
  go_enter Tryd.func22, Tryd.ntmps22
  go_upto_region 1 with fail
  rw [HW1.out, HX.out]
  go_wp2_with (first | (go_at_call 49; (with_reducible refine (HQ0.out _).mono ?_); rintro e wx ⟨rfl, rfl⟩) | (go_at_call 49; (with_reducible refine (HQ1.out _).mono ?_); rintro e wx ⟨rfl, rfl⟩) | (go_at_call 49; (with_reducible refine (HQ2.out _).mono ?_); rintro e wx ⟨rfl, rfl⟩) | (go_at_call 49; (with_reducible refine (HQ3.out _).mono ?_); rintro e wx ⟨rfl, rfl⟩) | (go_at_call 49; (with_reducible refine (HQ4.out _).mono ?_); rintro e wx ⟨rfl, rfl⟩) | (go_at_call 46; (with_reducible refine (HQ5.out _).mono ?_); rintro e wx ⟨rfl, hbx⟩; have hxx := (hbx.block X (lt_of_row HX1.out)).trans HX1.out; clear x0 x1 x2 x3 x4 x5 x6 x7 x8 x9 x10 x11 x12 x13; have x4 := cell_of_heap hxx 4; have x5 := cell_of_heap hxx 5; have x6 := cell_of_heap hxx 6; have x7 := cell_of_heap hxx 7; have x8 := cell_of_heap hxx 8; have x9 := cell_of_heap hxx 9; have x10 := cell_of_heap hxx 10; have x11 := cell_of_heap hxx 11; have x12 := cell_of_heap hxx 12; have x13 := cell_of_heap hxx 13; simp at x4 x5 x6 x7 x8 x9 x10 x11 x12 x13; have HBX := Lib.hid (HB1.out.trans (hbx.mono HB1.out.size)); clear hbx hxx) | (go_at_call 49; (with_reducible refine (HQ6.out _).mono ?_); rintro e wx ⟨rfl, rfl⟩) | (go_at_call 49; (with_reducible refine (HQ7.out _).mono ?_); rintro e wx ⟨rfl, rfl⟩) | (go_at_call 49; (with_reducible refine (HQ8.out _).mono ?_); rintro e wx ⟨rfl, rfl⟩) | fail)
  go_ret
  exact ⟨rfl, by first | exact HBX.out | exact HB1.out⟩
set_option maxRecDepth 100000 in
set_option maxHeartbeats 6400000 in
theorem rjgood_n9 (j : JR) (q : Nat → Int) (w : World) (k0 : inB j.id 1 999 = true) (k1 : inB j.tenant 1 999 = true) (k2 : inB j.cell 1 4 = true) (k3 : inB j.band 0 2 = true) (k4 : inB j.tasks 1 8 = true) (k5 : goodV j.need = true) (k6 : inB j.first 0 1073741824 = true) (k7 : inB j.windows 1 8 = true) (k8 : inB j.budget 0 100 = true) (k9 : inB j.set 0 999 = false)  :
    Calls Tryd.prog 22 #[.agg #[.int .i64 j.id, .int .i64 j.tenant, .int .i64 j.cell, .int .i64 j.band, .int .i64 j.tasks, .int .i64 j.need.a, .int .i64 j.need.b, .int .i64 j.need.c, .int .i64 j.need.d, .int .i64 j.first, .int .i64 j.windows, .int .i64 j.budget, .bool j.env, .int .i64 j.set, .int .i64 (q 0), .int .i64 (q 1), .int .i64 (q 2), .int .i64 (q 3), .int .i64 (q 4), .int .i64 (q 5), .int .i64 (q 6), .int .i64 (q 7)]] w fun e w' => e = .returned (.bool false) ∧ Below w.heap.size w w' := by
  obtain ⟨X, hX⟩ : ∃ X, w.heap.size = X := ⟨_, rfl⟩
  obtain ⟨W1, hW1⟩ : ∃ W1, w.alloc (.cells #[.int .i64 j.id, .int .i64 j.tenant, .int .i64 j.cell, .int .i64 j.band, .int .i64 j.tasks, .int .i64 j.need.a, .int .i64 j.need.b, .int .i64 j.need.c, .int .i64 j.need.d, .int .i64 j.first, .int .i64 j.windows, .int .i64 j.budget, .bool j.env, .int .i64 j.set, .int .i64 (q 0), .int .i64 (q 1), .int .i64 (q 2), .int .i64 (q 3), .int .i64 (q 4), .int .i64 (q 5), .int .i64 (q 6), .int .i64 (q 7)] 50) = W1 := ⟨_, rfl⟩
  have hb1 : Below w.heap.size w W1 := by rw [← hW1]; exact (Below.refl _ _).alloc (Nat.le_refl _) _
  have hx1 : W1.heap[X]? = some (.cells #[.int .i64 j.id, .int .i64 j.tenant, .int .i64 j.cell, .int .i64 j.band, .int .i64 j.tasks, .int .i64 j.need.a, .int .i64 j.need.b, .int .i64 j.need.c, .int .i64 j.need.d, .int .i64 j.first, .int .i64 j.windows, .int .i64 j.budget, .bool j.env, .int .i64 j.set, .int .i64 (q 0), .int .i64 (q 1), .int .i64 (q 2), .int .i64 (q 3), .int .i64 (q 4), .int .i64 (q 5), .int .i64 (q 6), .int .i64 (q 7)] 50 (0, 0)) := by rw [← hW1, ← hX]; exact heap_alloc_new _ _
  have x0 := cell_of_heap hx1 0
  have x1 := cell_of_heap hx1 1
  have x2 := cell_of_heap hx1 2
  have x3 := cell_of_heap hx1 3
  have x4 := cell_of_heap hx1 4
  have x5 := cell_of_heap hx1 5
  have x6 := cell_of_heap hx1 6
  have x7 := cell_of_heap hx1 7
  have x8 := cell_of_heap hx1 8
  have x9 := cell_of_heap hx1 9
  have x10 := cell_of_heap hx1 10
  have x11 := cell_of_heap hx1 11
  have x12 := cell_of_heap hx1 12
  have x13 := cell_of_heap hx1 13
  simp at x0 x1 x2 x3 x4 x5 x6 x7 x8 x9 x10 x11 x12 x13
  have HW1 := Lib.hid hW1; have HX := Lib.hid hX; have HB1 := Lib.hid hb1; have HX1 := Lib.hid hx1
  have hq0 := fun W : World => rin_c j.id 1 999 W
  rw [k0] at hq0
  have HQ0 := Lib.hid hq0
  clear hq0 k0
  have hq1 := fun W : World => rin_c j.tenant 1 999 W
  rw [k1] at hq1
  have HQ1 := Lib.hid hq1
  clear hq1 k1
  have hq2 := fun W : World => rin_c j.cell 1 4 W
  rw [k2] at hq2
  have HQ2 := Lib.hid hq2
  clear hq2 k2
  have hq3 := fun W : World => rin_c j.band 0 2 W
  rw [k3] at hq3
  have HQ3 := Lib.hid hq3
  clear hq3 k3
  have hq4 := fun W : World => rin_c j.tasks 1 8 W
  rw [k4] at hq4
  have HQ4 := Lib.hid hq4
  clear hq4 k4
  have hq5 := fun W : World => rgood_b j.need W
  rw [k5] at hq5
  have HQ5 := Lib.hid hq5
  clear hq5 k5
  have hq6 := fun W : World => rin_c j.first 0 1073741824 W
  rw [k6] at hq6
  have HQ6 := Lib.hid hq6
  clear hq6 k6
  have hq7 := fun W : World => rin_c j.windows 1 8 W
  rw [k7] at hq7
  have HQ7 := Lib.hid hq7
  clear hq7 k7
  have hq8 := fun W : World => rin_c j.budget 0 100 W
  rw [k8] at hq8
  have HQ8 := Lib.hid hq8
  clear hq8 k8
  have hq9 := fun W : World => rin_c j.set 0 999 W
  rw [k9] at hq9
  have HQ9 := Lib.hid hq9
  clear hq9 k9
  clear hX hW1 hb1 hx1
  go_enter Tryd.func22, Tryd.ntmps22
  go_upto_region 1 with fail
  rw [HW1.out, HX.out]
  go_wp2_with (first | (go_at_call 49; (with_reducible refine (HQ0.out _).mono ?_); rintro e wx ⟨rfl, rfl⟩) | (go_at_call 49; (with_reducible refine (HQ1.out _).mono ?_); rintro e wx ⟨rfl, rfl⟩) | (go_at_call 49; (with_reducible refine (HQ2.out _).mono ?_); rintro e wx ⟨rfl, rfl⟩) | (go_at_call 49; (with_reducible refine (HQ3.out _).mono ?_); rintro e wx ⟨rfl, rfl⟩) | (go_at_call 49; (with_reducible refine (HQ4.out _).mono ?_); rintro e wx ⟨rfl, rfl⟩) | (go_at_call 46; (with_reducible refine (HQ5.out _).mono ?_); rintro e wx ⟨rfl, hbx⟩; have hxx := (hbx.block X (lt_of_row HX1.out)).trans HX1.out; clear x0 x1 x2 x3 x4 x5 x6 x7 x8 x9 x10 x11 x12 x13; have x4 := cell_of_heap hxx 4; have x5 := cell_of_heap hxx 5; have x6 := cell_of_heap hxx 6; have x7 := cell_of_heap hxx 7; have x8 := cell_of_heap hxx 8; have x9 := cell_of_heap hxx 9; have x10 := cell_of_heap hxx 10; have x11 := cell_of_heap hxx 11; have x12 := cell_of_heap hxx 12; have x13 := cell_of_heap hxx 13; simp at x4 x5 x6 x7 x8 x9 x10 x11 x12 x13; have HBX := Lib.hid (HB1.out.trans (hbx.mono HB1.out.size)); clear hbx hxx) | (go_at_call 49; (with_reducible refine (HQ6.out _).mono ?_); rintro e wx ⟨rfl, rfl⟩) | (go_at_call 49; (with_reducible refine (HQ7.out _).mono ?_); rintro e wx ⟨rfl, rfl⟩) | (go_at_call 49; (with_reducible refine (HQ8.out _).mono ?_); rintro e wx ⟨rfl, rfl⟩) | (go_at_call 49; (with_reducible refine (HQ9.out _).mono ?_); rintro e wx ⟨rfl, rfl⟩) | fail)
  go_ret
  exact ⟨rfl, by first | exact HBX.out | exact HB1.out⟩
set_option maxRecDepth 100000 in
set_option maxHeartbeats 6400000 in
theorem rjgood_env (j : JR) (q : Nat → Int) (w : World) (k0 : inB j.id 1 999 = true) (k1 : inB j.tenant 1 999 = true) (k2 : inB j.cell 1 4 = true) (k3 : inB j.band 0 2 = true) (k4 : inB j.tasks 1 8 = true) (k5 : goodV j.need = true) (k6 : inB j.first 0 1073741824 = true) (k7 : inB j.windows 1 8 = true) (k8 : inB j.budget 0 100 = true) (k9 : inB j.set 0 999 = true) (y : j.env = true) (z : j.set ≠ 0) :
    Calls Tryd.prog 22 #[.agg #[.int .i64 j.id, .int .i64 j.tenant, .int .i64 j.cell, .int .i64 j.band, .int .i64 j.tasks, .int .i64 j.need.a, .int .i64 j.need.b, .int .i64 j.need.c, .int .i64 j.need.d, .int .i64 j.first, .int .i64 j.windows, .int .i64 j.budget, .bool j.env, .int .i64 j.set, .int .i64 (q 0), .int .i64 (q 1), .int .i64 (q 2), .int .i64 (q 3), .int .i64 (q 4), .int .i64 (q 5), .int .i64 (q 6), .int .i64 (q 7)]] w fun e w' => e = .returned (.bool false) ∧ Below w.heap.size w w' := by
  obtain ⟨X, hX⟩ : ∃ X, w.heap.size = X := ⟨_, rfl⟩
  obtain ⟨W1, hW1⟩ : ∃ W1, w.alloc (.cells #[.int .i64 j.id, .int .i64 j.tenant, .int .i64 j.cell, .int .i64 j.band, .int .i64 j.tasks, .int .i64 j.need.a, .int .i64 j.need.b, .int .i64 j.need.c, .int .i64 j.need.d, .int .i64 j.first, .int .i64 j.windows, .int .i64 j.budget, .bool j.env, .int .i64 j.set, .int .i64 (q 0), .int .i64 (q 1), .int .i64 (q 2), .int .i64 (q 3), .int .i64 (q 4), .int .i64 (q 5), .int .i64 (q 6), .int .i64 (q 7)] 50) = W1 := ⟨_, rfl⟩
  have hb1 : Below w.heap.size w W1 := by rw [← hW1]; exact (Below.refl _ _).alloc (Nat.le_refl _) _
  have hx1 : W1.heap[X]? = some (.cells #[.int .i64 j.id, .int .i64 j.tenant, .int .i64 j.cell, .int .i64 j.band, .int .i64 j.tasks, .int .i64 j.need.a, .int .i64 j.need.b, .int .i64 j.need.c, .int .i64 j.need.d, .int .i64 j.first, .int .i64 j.windows, .int .i64 j.budget, .bool j.env, .int .i64 j.set, .int .i64 (q 0), .int .i64 (q 1), .int .i64 (q 2), .int .i64 (q 3), .int .i64 (q 4), .int .i64 (q 5), .int .i64 (q 6), .int .i64 (q 7)] 50 (0, 0)) := by rw [← hW1, ← hX]; exact heap_alloc_new _ _
  have x0 := cell_of_heap hx1 0
  have x1 := cell_of_heap hx1 1
  have x2 := cell_of_heap hx1 2
  have x3 := cell_of_heap hx1 3
  have x4 := cell_of_heap hx1 4
  have x5 := cell_of_heap hx1 5
  have x6 := cell_of_heap hx1 6
  have x7 := cell_of_heap hx1 7
  have x8 := cell_of_heap hx1 8
  have x9 := cell_of_heap hx1 9
  have x10 := cell_of_heap hx1 10
  have x11 := cell_of_heap hx1 11
  have x12 := cell_of_heap hx1 12
  have x13 := cell_of_heap hx1 13
  simp at x0 x1 x2 x3 x4 x5 x6 x7 x8 x9 x10 x11 x12 x13
  have HW1 := Lib.hid hW1; have HX := Lib.hid hX; have HB1 := Lib.hid hb1; have HX1 := Lib.hid hx1
  have hq0 := fun W : World => rin_c j.id 1 999 W
  rw [k0] at hq0
  have HQ0 := Lib.hid hq0
  clear hq0 k0
  have hq1 := fun W : World => rin_c j.tenant 1 999 W
  rw [k1] at hq1
  have HQ1 := Lib.hid hq1
  clear hq1 k1
  have hq2 := fun W : World => rin_c j.cell 1 4 W
  rw [k2] at hq2
  have HQ2 := Lib.hid hq2
  clear hq2 k2
  have hq3 := fun W : World => rin_c j.band 0 2 W
  rw [k3] at hq3
  have HQ3 := Lib.hid hq3
  clear hq3 k3
  have hq4 := fun W : World => rin_c j.tasks 1 8 W
  rw [k4] at hq4
  have HQ4 := Lib.hid hq4
  clear hq4 k4
  have hq5 := fun W : World => rgood_b j.need W
  rw [k5] at hq5
  have HQ5 := Lib.hid hq5
  clear hq5 k5
  have hq6 := fun W : World => rin_c j.first 0 1073741824 W
  rw [k6] at hq6
  have HQ6 := Lib.hid hq6
  clear hq6 k6
  have hq7 := fun W : World => rin_c j.windows 1 8 W
  rw [k7] at hq7
  have HQ7 := Lib.hid hq7
  clear hq7 k7
  have hq8 := fun W : World => rin_c j.budget 0 100 W
  rw [k8] at hq8
  have HQ8 := Lib.hid hq8
  clear hq8 k8
  have hq9 := fun W : World => rin_c j.set 0 999 W
  rw [k9] at hq9
  have HQ9 := Lib.hid hq9
  clear hq9 k9
  have hz : (j.set == 0) = false := by simpa using z
  have hz2 : (j.set != 0) = true := by simpa using z
  have HYE := Lib.hid y
  clear y z
  clear hX hW1 hb1 hx1
  go_enter Tryd.func22, Tryd.ntmps22
  go_upto_region 1 with fail
  rw [HW1.out, HX.out]
  go_wp2_with (first | (go_at_call 49; (with_reducible refine (HQ0.out _).mono ?_); rintro e wx ⟨rfl, rfl⟩) | (go_at_call 49; (with_reducible refine (HQ1.out _).mono ?_); rintro e wx ⟨rfl, rfl⟩) | (go_at_call 49; (with_reducible refine (HQ2.out _).mono ?_); rintro e wx ⟨rfl, rfl⟩) | (go_at_call 49; (with_reducible refine (HQ3.out _).mono ?_); rintro e wx ⟨rfl, rfl⟩) | (go_at_call 49; (with_reducible refine (HQ4.out _).mono ?_); rintro e wx ⟨rfl, rfl⟩) | (go_at_call 46; (with_reducible refine (HQ5.out _).mono ?_); rintro e wx ⟨rfl, hbx⟩; have hxx := (hbx.block X (lt_of_row HX1.out)).trans HX1.out; clear x0 x1 x2 x3 x4 x5 x6 x7 x8 x9 x10 x11 x12 x13; have x4 := cell_of_heap hxx 4; have x5 := cell_of_heap hxx 5; have x6 := cell_of_heap hxx 6; have x7 := cell_of_heap hxx 7; have x8 := cell_of_heap hxx 8; have x9 := cell_of_heap hxx 9; have x10 := cell_of_heap hxx 10; have x11 := cell_of_heap hxx 11; have x12 := cell_of_heap hxx 12; have x13 := cell_of_heap hxx 13; simp at x4 x5 x6 x7 x8 x9 x10 x11 x12 x13; rw [HYE.out] at x12; have HBX := Lib.hid (HB1.out.trans (hbx.mono HB1.out.size)); clear hbx hxx) | (go_at_call 49; (with_reducible refine (HQ6.out _).mono ?_); rintro e wx ⟨rfl, rfl⟩) | (go_at_call 49; (with_reducible refine (HQ7.out _).mono ?_); rintro e wx ⟨rfl, rfl⟩) | (go_at_call 49; (with_reducible refine (HQ8.out _).mono ?_); rintro e wx ⟨rfl, rfl⟩) | (go_at_call 49; (with_reducible refine (HQ9.out _).mono ?_); rintro e wx ⟨rfl, rfl⟩) | fail)
  go_ret
  exact ⟨rfl, by first | exact HBX.out | exact HB1.out⟩
set_option maxRecDepth 100000 in
set_option maxHeartbeats 6400000 in
theorem rjgood_ez (j : JR) (q : Nat → Int) (w : World) (k0 : inB j.id 1 999 = true) (k1 : inB j.tenant 1 999 = true) (k2 : inB j.cell 1 4 = true) (k3 : inB j.band 0 2 = true) (k4 : inB j.tasks 1 8 = true) (k5 : goodV j.need = true) (k6 : inB j.first 0 1073741824 = true) (k7 : inB j.windows 1 8 = true) (k8 : inB j.budget 0 100 = true) (k9 : inB j.set 0 999 = true) (y : j.env = true) (z : j.set = 0) :
    Calls Tryd.prog 22 #[.agg #[.int .i64 j.id, .int .i64 j.tenant, .int .i64 j.cell, .int .i64 j.band, .int .i64 j.tasks, .int .i64 j.need.a, .int .i64 j.need.b, .int .i64 j.need.c, .int .i64 j.need.d, .int .i64 j.first, .int .i64 j.windows, .int .i64 j.budget, .bool j.env, .int .i64 j.set, .int .i64 (q 0), .int .i64 (q 1), .int .i64 (q 2), .int .i64 (q 3), .int .i64 (q 4), .int .i64 (q 5), .int .i64 (q 6), .int .i64 (q 7)]] w fun e w' => e = .returned (.bool (decide ((scaleR j.need j.tasks).2 = 0))) ∧ Below w.heap.size w w' := by
  obtain ⟨X, hX⟩ : ∃ X, w.heap.size = X := ⟨_, rfl⟩
  obtain ⟨W1, hW1⟩ : ∃ W1, w.alloc (.cells #[.int .i64 j.id, .int .i64 j.tenant, .int .i64 j.cell, .int .i64 j.band, .int .i64 j.tasks, .int .i64 j.need.a, .int .i64 j.need.b, .int .i64 j.need.c, .int .i64 j.need.d, .int .i64 j.first, .int .i64 j.windows, .int .i64 j.budget, .bool j.env, .int .i64 j.set, .int .i64 (q 0), .int .i64 (q 1), .int .i64 (q 2), .int .i64 (q 3), .int .i64 (q 4), .int .i64 (q 5), .int .i64 (q 6), .int .i64 (q 7)] 50) = W1 := ⟨_, rfl⟩
  have hb1 : Below w.heap.size w W1 := by rw [← hW1]; exact (Below.refl _ _).alloc (Nat.le_refl _) _
  have hx1 : W1.heap[X]? = some (.cells #[.int .i64 j.id, .int .i64 j.tenant, .int .i64 j.cell, .int .i64 j.band, .int .i64 j.tasks, .int .i64 j.need.a, .int .i64 j.need.b, .int .i64 j.need.c, .int .i64 j.need.d, .int .i64 j.first, .int .i64 j.windows, .int .i64 j.budget, .bool j.env, .int .i64 j.set, .int .i64 (q 0), .int .i64 (q 1), .int .i64 (q 2), .int .i64 (q 3), .int .i64 (q 4), .int .i64 (q 5), .int .i64 (q 6), .int .i64 (q 7)] 50 (0, 0)) := by rw [← hW1, ← hX]; exact heap_alloc_new _ _
  have x0 := cell_of_heap hx1 0
  have x1 := cell_of_heap hx1 1
  have x2 := cell_of_heap hx1 2
  have x3 := cell_of_heap hx1 3
  have x4 := cell_of_heap hx1 4
  have x5 := cell_of_heap hx1 5
  have x6 := cell_of_heap hx1 6
  have x7 := cell_of_heap hx1 7
  have x8 := cell_of_heap hx1 8
  have x9 := cell_of_heap hx1 9
  have x10 := cell_of_heap hx1 10
  have x11 := cell_of_heap hx1 11
  have x12 := cell_of_heap hx1 12
  have x13 := cell_of_heap hx1 13
  simp at x0 x1 x2 x3 x4 x5 x6 x7 x8 x9 x10 x11 x12 x13
  have HW1 := Lib.hid hW1; have HX := Lib.hid hX; have HB1 := Lib.hid hb1; have HX1 := Lib.hid hx1
  have hq0 := fun W : World => rin_c j.id 1 999 W
  rw [k0] at hq0
  have HQ0 := Lib.hid hq0
  clear hq0 k0
  have hq1 := fun W : World => rin_c j.tenant 1 999 W
  rw [k1] at hq1
  have HQ1 := Lib.hid hq1
  clear hq1 k1
  have hq2 := fun W : World => rin_c j.cell 1 4 W
  rw [k2] at hq2
  have HQ2 := Lib.hid hq2
  clear hq2 k2
  have hq3 := fun W : World => rin_c j.band 0 2 W
  rw [k3] at hq3
  have HQ3 := Lib.hid hq3
  clear hq3 k3
  have hq4 := fun W : World => rin_c j.tasks 1 8 W
  rw [k4] at hq4
  have HQ4 := Lib.hid hq4
  clear hq4 k4
  have hq5 := fun W : World => rgood_b j.need W
  rw [k5] at hq5
  have HQ5 := Lib.hid hq5
  clear hq5 k5
  have hq6 := fun W : World => rin_c j.first 0 1073741824 W
  rw [k6] at hq6
  have HQ6 := Lib.hid hq6
  clear hq6 k6
  have hq7 := fun W : World => rin_c j.windows 1 8 W
  rw [k7] at hq7
  have HQ7 := Lib.hid hq7
  clear hq7 k7
  have hq8 := fun W : World => rin_c j.budget 0 100 W
  rw [k8] at hq8
  have HQ8 := Lib.hid hq8
  clear hq8 k8
  have hq9 := fun W : World => rin_c j.set 0 999 W
  rw [k9] at hq9
  have HQ9 := Lib.hid hq9
  clear hq9 k9
  have HYE := Lib.hid y
  have HZ := Lib.hid z
  have hq9 := HQ9.out
  rw [z] at hq9
  clear HQ9
  have HQ9 := Lib.hid hq9
  clear hq9 y z
  clear hX hW1 hb1 hx1
  have hs := fun W : World => rscale_c j.need j.tasks W
  obtain ⟨V, hV⟩ : ∃ V, (scaleR j.need j.tasks).1 = V := ⟨_, rfl⟩
  obtain ⟨n, hn⟩ : ∃ n, (scaleR j.need j.tasks).2 = n := ⟨_, rfl⟩
  rw [hV, hn] at hs
  rw [hn]
  have HS := Lib.hid hs
  clear hs hV hn
  by_cases h0 : n = 0
  · rw [decide_eq_true h0]
    subst h0
    go_enter Tryd.func22, Tryd.ntmps22
    go_upto_region 1 with fail
    rw [HW1.out, HX.out]
    go_wp2_with (first | (go_at_call 49; (with_reducible refine (HQ0.out _).mono ?_); rintro e wx ⟨rfl, rfl⟩) | (go_at_call 49; (with_reducible refine (HQ1.out _).mono ?_); rintro e wx ⟨rfl, rfl⟩) | (go_at_call 49; (with_reducible refine (HQ2.out _).mono ?_); rintro e wx ⟨rfl, rfl⟩) | (go_at_call 49; (with_reducible refine (HQ3.out _).mono ?_); rintro e wx ⟨rfl, rfl⟩) | (go_at_call 49; (with_reducible refine (HQ4.out _).mono ?_); rintro e wx ⟨rfl, rfl⟩) | (go_at_call 46; (with_reducible refine (HQ5.out _).mono ?_); rintro e wx ⟨rfl, hbx⟩; have hxx := (hbx.block X (lt_of_row HX1.out)).trans HX1.out; clear x0 x1 x2 x3 x4 x5 x6 x7 x8 x9 x10 x11 x12 x13; have x4 := cell_of_heap hxx 4; have x5 := cell_of_heap hxx 5; have x6 := cell_of_heap hxx 6; have x7 := cell_of_heap hxx 7; have x8 := cell_of_heap hxx 8; have x9 := cell_of_heap hxx 9; have x10 := cell_of_heap hxx 10; have x11 := cell_of_heap hxx 11; have x12 := cell_of_heap hxx 12; have x13 := cell_of_heap hxx 13; simp at x4 x5 x6 x7 x8 x9 x10 x11 x12 x13; rw [HYE.out] at x12; rw [HZ.out] at x13; have HBX := Lib.hid (HB1.out.trans (hbx.mono HB1.out.size)); clear hbx hxx) | (go_at_call 49; (with_reducible refine (HQ6.out _).mono ?_); rintro e wx ⟨rfl, rfl⟩) | (go_at_call 49; (with_reducible refine (HQ7.out _).mono ?_); rintro e wx ⟨rfl, rfl⟩) | (go_at_call 49; (with_reducible refine (HQ8.out _).mono ?_); rintro e wx ⟨rfl, rfl⟩) | (go_at_call 49; (with_reducible refine (HQ9.out _).mono ?_); rintro e wx ⟨rfl, rfl⟩) | fail)
    refine (HS.out _).mono ?_
    rintro e w2 ⟨rfl, hb2⟩
    have HB2 := Lib.hid (HBX.out.trans (hb2.mono HBX.out.size))
    clear hb2
    go_wp2_with fail
    go_ret
    exact ⟨rfl, by have := HB2.out; (repeat' (first | (with_reducible exact Below.refl _ _) | (with_reducible refine below_drewN ?_ _) | (with_reducible refine Below.drew ?_) | (with_reducible refine Below.alloc ?_ ?_ _) | (with_reducible refine Below.setCell ?_ ?_ _) | (with_reducible refine Below.trans ?_ (Below.mono (by with_reducible assumption) ?_)) | omega | (simp only [World.size_alloc, World.size_setCell, World.size_drew, Go.Proofs.YtbfbhlpibclccaaDoor.World.size_drewN] at *; omega) | (with_reducible refine Below.size (B := 0) ?_)))⟩
  · rw [decide_eq_false h0]
    have hk : ((n : Int) == 0) = false := by simp; omega
    clear h0
    go_enter Tryd.func22, Tryd.ntmps22
    go_upto_region 1 with fail
    rw [HW1.out, HX.out]
    go_wp2_with (first | (go_at_call 49; (with_reducible refine (HQ0.out _).mono ?_); rintro e wx ⟨rfl, rfl⟩) | (go_at_call 49; (with_reducible refine (HQ1.out _).mono ?_); rintro e wx ⟨rfl, rfl⟩) | (go_at_call 49; (with_reducible refine (HQ2.out _).mono ?_); rintro e wx ⟨rfl, rfl⟩) | (go_at_call 49; (with_reducible refine (HQ3.out _).mono ?_); rintro e wx ⟨rfl, rfl⟩) | (go_at_call 49; (with_reducible refine (HQ4.out _).mono ?_); rintro e wx ⟨rfl, rfl⟩) | (go_at_call 46; (with_reducible refine (HQ5.out _).mono ?_); rintro e wx ⟨rfl, hbx⟩; have hxx := (hbx.block X (lt_of_row HX1.out)).trans HX1.out; clear x0 x1 x2 x3 x4 x5 x6 x7 x8 x9 x10 x11 x12 x13; have x4 := cell_of_heap hxx 4; have x5 := cell_of_heap hxx 5; have x6 := cell_of_heap hxx 6; have x7 := cell_of_heap hxx 7; have x8 := cell_of_heap hxx 8; have x9 := cell_of_heap hxx 9; have x10 := cell_of_heap hxx 10; have x11 := cell_of_heap hxx 11; have x12 := cell_of_heap hxx 12; have x13 := cell_of_heap hxx 13; simp at x4 x5 x6 x7 x8 x9 x10 x11 x12 x13; rw [HYE.out] at x12; rw [HZ.out] at x13; have HBX := Lib.hid (HB1.out.trans (hbx.mono HB1.out.size)); clear hbx hxx) | (go_at_call 49; (with_reducible refine (HQ6.out _).mono ?_); rintro e wx ⟨rfl, rfl⟩) | (go_at_call 49; (with_reducible refine (HQ7.out _).mono ?_); rintro e wx ⟨rfl, rfl⟩) | (go_at_call 49; (with_reducible refine (HQ8.out _).mono ?_); rintro e wx ⟨rfl, rfl⟩) | (go_at_call 49; (with_reducible refine (HQ9.out _).mono ?_); rintro e wx ⟨rfl, rfl⟩) | fail)
    refine (HS.out _).mono ?_
    rintro e w2 ⟨rfl, hb2⟩
    have HB2 := Lib.hid (HBX.out.trans (hb2.mono HBX.out.size))
    clear hb2
    go_wp2_with fail
    go_ret
    exact ⟨rfl, by have := HB2.out; (repeat' (first | (with_reducible exact Below.refl _ _) | (with_reducible refine below_drewN ?_ _) | (with_reducible refine Below.drew ?_) | (with_reducible refine Below.alloc ?_ ?_ _) | (with_reducible refine Below.setCell ?_ ?_ _) | (with_reducible refine Below.trans ?_ (Below.mono (by with_reducible assumption) ?_)) | omega | (simp only [World.size_alloc, World.size_setCell, World.size_drew, Go.Proofs.YtbfbhlpibclccaaDoor.World.size_drewN] at *; omega) | (with_reducible refine Below.size (B := 0) ?_)))⟩
set_option maxRecDepth 100000 in
set_option maxHeartbeats 6400000 in
theorem rjgood_e0 (j : JR) (q : Nat → Int) (w : World) (k0 : inB j.id 1 999 = true) (k1 : inB j.tenant 1 999 = true) (k2 : inB j.cell 1 4 = true) (k3 : inB j.band 0 2 = true) (k4 : inB j.tasks 1 8 = true) (k5 : goodV j.need = true) (k6 : inB j.first 0 1073741824 = true) (k7 : inB j.windows 1 8 = true) (k8 : inB j.budget 0 100 = true) (k9 : inB j.set 0 999 = true) (y : j.env = false) :
    Calls Tryd.prog 22 #[.agg #[.int .i64 j.id, .int .i64 j.tenant, .int .i64 j.cell, .int .i64 j.band, .int .i64 j.tasks, .int .i64 j.need.a, .int .i64 j.need.b, .int .i64 j.need.c, .int .i64 j.need.d, .int .i64 j.first, .int .i64 j.windows, .int .i64 j.budget, .bool j.env, .int .i64 j.set, .int .i64 (q 0), .int .i64 (q 1), .int .i64 (q 2), .int .i64 (q 3), .int .i64 (q 4), .int .i64 (q 5), .int .i64 (q 6), .int .i64 (q 7)]] w fun e w' => e = .returned (.bool (decide ((scaleR j.need j.tasks).2 = 0))) ∧ Below w.heap.size w w' := by
  obtain ⟨X, hX⟩ : ∃ X, w.heap.size = X := ⟨_, rfl⟩
  obtain ⟨W1, hW1⟩ : ∃ W1, w.alloc (.cells #[.int .i64 j.id, .int .i64 j.tenant, .int .i64 j.cell, .int .i64 j.band, .int .i64 j.tasks, .int .i64 j.need.a, .int .i64 j.need.b, .int .i64 j.need.c, .int .i64 j.need.d, .int .i64 j.first, .int .i64 j.windows, .int .i64 j.budget, .bool j.env, .int .i64 j.set, .int .i64 (q 0), .int .i64 (q 1), .int .i64 (q 2), .int .i64 (q 3), .int .i64 (q 4), .int .i64 (q 5), .int .i64 (q 6), .int .i64 (q 7)] 50) = W1 := ⟨_, rfl⟩
  have hb1 : Below w.heap.size w W1 := by rw [← hW1]; exact (Below.refl _ _).alloc (Nat.le_refl _) _
  have hx1 : W1.heap[X]? = some (.cells #[.int .i64 j.id, .int .i64 j.tenant, .int .i64 j.cell, .int .i64 j.band, .int .i64 j.tasks, .int .i64 j.need.a, .int .i64 j.need.b, .int .i64 j.need.c, .int .i64 j.need.d, .int .i64 j.first, .int .i64 j.windows, .int .i64 j.budget, .bool j.env, .int .i64 j.set, .int .i64 (q 0), .int .i64 (q 1), .int .i64 (q 2), .int .i64 (q 3), .int .i64 (q 4), .int .i64 (q 5), .int .i64 (q 6), .int .i64 (q 7)] 50 (0, 0)) := by rw [← hW1, ← hX]; exact heap_alloc_new _ _
  have x0 := cell_of_heap hx1 0
  have x1 := cell_of_heap hx1 1
  have x2 := cell_of_heap hx1 2
  have x3 := cell_of_heap hx1 3
  have x4 := cell_of_heap hx1 4
  have x5 := cell_of_heap hx1 5
  have x6 := cell_of_heap hx1 6
  have x7 := cell_of_heap hx1 7
  have x8 := cell_of_heap hx1 8
  have x9 := cell_of_heap hx1 9
  have x10 := cell_of_heap hx1 10
  have x11 := cell_of_heap hx1 11
  have x12 := cell_of_heap hx1 12
  have x13 := cell_of_heap hx1 13
  simp at x0 x1 x2 x3 x4 x5 x6 x7 x8 x9 x10 x11 x12 x13
  have HW1 := Lib.hid hW1; have HX := Lib.hid hX; have HB1 := Lib.hid hb1; have HX1 := Lib.hid hx1
  have hq0 := fun W : World => rin_c j.id 1 999 W
  rw [k0] at hq0
  have HQ0 := Lib.hid hq0
  clear hq0 k0
  have hq1 := fun W : World => rin_c j.tenant 1 999 W
  rw [k1] at hq1
  have HQ1 := Lib.hid hq1
  clear hq1 k1
  have hq2 := fun W : World => rin_c j.cell 1 4 W
  rw [k2] at hq2
  have HQ2 := Lib.hid hq2
  clear hq2 k2
  have hq3 := fun W : World => rin_c j.band 0 2 W
  rw [k3] at hq3
  have HQ3 := Lib.hid hq3
  clear hq3 k3
  have hq4 := fun W : World => rin_c j.tasks 1 8 W
  rw [k4] at hq4
  have HQ4 := Lib.hid hq4
  clear hq4 k4
  have hq5 := fun W : World => rgood_b j.need W
  rw [k5] at hq5
  have HQ5 := Lib.hid hq5
  clear hq5 k5
  have hq6 := fun W : World => rin_c j.first 0 1073741824 W
  rw [k6] at hq6
  have HQ6 := Lib.hid hq6
  clear hq6 k6
  have hq7 := fun W : World => rin_c j.windows 1 8 W
  rw [k7] at hq7
  have HQ7 := Lib.hid hq7
  clear hq7 k7
  have hq8 := fun W : World => rin_c j.budget 0 100 W
  rw [k8] at hq8
  have HQ8 := Lib.hid hq8
  clear hq8 k8
  have hq9 := fun W : World => rin_c j.set 0 999 W
  rw [k9] at hq9
  have HQ9 := Lib.hid hq9
  clear hq9 k9
  have HYE := Lib.hid y
  clear y
  clear hX hW1 hb1 hx1
  have hs := fun W : World => rscale_c j.need j.tasks W
  obtain ⟨V, hV⟩ : ∃ V, (scaleR j.need j.tasks).1 = V := ⟨_, rfl⟩
  obtain ⟨n, hn⟩ : ∃ n, (scaleR j.need j.tasks).2 = n := ⟨_, rfl⟩
  rw [hV, hn] at hs
  rw [hn]
  have HS := Lib.hid hs
  clear hs hV hn
  by_cases h0 : n = 0
  · rw [decide_eq_true h0]
    subst h0
    go_enter Tryd.func22, Tryd.ntmps22
    go_upto_region 1 with fail
    rw [HW1.out, HX.out]
    go_wp2_with (first | (go_at_call 49; (with_reducible refine (HQ0.out _).mono ?_); rintro e wx ⟨rfl, rfl⟩) | (go_at_call 49; (with_reducible refine (HQ1.out _).mono ?_); rintro e wx ⟨rfl, rfl⟩) | (go_at_call 49; (with_reducible refine (HQ2.out _).mono ?_); rintro e wx ⟨rfl, rfl⟩) | (go_at_call 49; (with_reducible refine (HQ3.out _).mono ?_); rintro e wx ⟨rfl, rfl⟩) | (go_at_call 49; (with_reducible refine (HQ4.out _).mono ?_); rintro e wx ⟨rfl, rfl⟩) | (go_at_call 46; (with_reducible refine (HQ5.out _).mono ?_); rintro e wx ⟨rfl, hbx⟩; have hxx := (hbx.block X (lt_of_row HX1.out)).trans HX1.out; clear x0 x1 x2 x3 x4 x5 x6 x7 x8 x9 x10 x11 x12 x13; have x4 := cell_of_heap hxx 4; have x5 := cell_of_heap hxx 5; have x6 := cell_of_heap hxx 6; have x7 := cell_of_heap hxx 7; have x8 := cell_of_heap hxx 8; have x9 := cell_of_heap hxx 9; have x10 := cell_of_heap hxx 10; have x11 := cell_of_heap hxx 11; have x12 := cell_of_heap hxx 12; have x13 := cell_of_heap hxx 13; simp at x4 x5 x6 x7 x8 x9 x10 x11 x12 x13; rw [HYE.out] at x12; have HBX := Lib.hid (HB1.out.trans (hbx.mono HB1.out.size)); clear hbx hxx) | (go_at_call 49; (with_reducible refine (HQ6.out _).mono ?_); rintro e wx ⟨rfl, rfl⟩) | (go_at_call 49; (with_reducible refine (HQ7.out _).mono ?_); rintro e wx ⟨rfl, rfl⟩) | (go_at_call 49; (with_reducible refine (HQ8.out _).mono ?_); rintro e wx ⟨rfl, rfl⟩) | (go_at_call 49; (with_reducible refine (HQ9.out _).mono ?_); rintro e wx ⟨rfl, rfl⟩) | fail)
    refine (HS.out _).mono ?_
    rintro e w2 ⟨rfl, hb2⟩
    have HB2 := Lib.hid (HBX.out.trans (hb2.mono HBX.out.size))
    clear hb2
    go_wp2_with fail
    go_ret
    exact ⟨rfl, by have := HB2.out; (repeat' (first | (with_reducible exact Below.refl _ _) | (with_reducible refine below_drewN ?_ _) | (with_reducible refine Below.drew ?_) | (with_reducible refine Below.alloc ?_ ?_ _) | (with_reducible refine Below.setCell ?_ ?_ _) | (with_reducible refine Below.trans ?_ (Below.mono (by with_reducible assumption) ?_)) | omega | (simp only [World.size_alloc, World.size_setCell, World.size_drew, Go.Proofs.YtbfbhlpibclccaaDoor.World.size_drewN] at *; omega) | (with_reducible refine Below.size (B := 0) ?_)))⟩
  · rw [decide_eq_false h0]
    have hk : ((n : Int) == 0) = false := by simp; omega
    clear h0
    go_enter Tryd.func22, Tryd.ntmps22
    go_upto_region 1 with fail
    rw [HW1.out, HX.out]
    go_wp2_with (first | (go_at_call 49; (with_reducible refine (HQ0.out _).mono ?_); rintro e wx ⟨rfl, rfl⟩) | (go_at_call 49; (with_reducible refine (HQ1.out _).mono ?_); rintro e wx ⟨rfl, rfl⟩) | (go_at_call 49; (with_reducible refine (HQ2.out _).mono ?_); rintro e wx ⟨rfl, rfl⟩) | (go_at_call 49; (with_reducible refine (HQ3.out _).mono ?_); rintro e wx ⟨rfl, rfl⟩) | (go_at_call 49; (with_reducible refine (HQ4.out _).mono ?_); rintro e wx ⟨rfl, rfl⟩) | (go_at_call 46; (with_reducible refine (HQ5.out _).mono ?_); rintro e wx ⟨rfl, hbx⟩; have hxx := (hbx.block X (lt_of_row HX1.out)).trans HX1.out; clear x0 x1 x2 x3 x4 x5 x6 x7 x8 x9 x10 x11 x12 x13; have x4 := cell_of_heap hxx 4; have x5 := cell_of_heap hxx 5; have x6 := cell_of_heap hxx 6; have x7 := cell_of_heap hxx 7; have x8 := cell_of_heap hxx 8; have x9 := cell_of_heap hxx 9; have x10 := cell_of_heap hxx 10; have x11 := cell_of_heap hxx 11; have x12 := cell_of_heap hxx 12; have x13 := cell_of_heap hxx 13; simp at x4 x5 x6 x7 x8 x9 x10 x11 x12 x13; rw [HYE.out] at x12; have HBX := Lib.hid (HB1.out.trans (hbx.mono HB1.out.size)); clear hbx hxx) | (go_at_call 49; (with_reducible refine (HQ6.out _).mono ?_); rintro e wx ⟨rfl, rfl⟩) | (go_at_call 49; (with_reducible refine (HQ7.out _).mono ?_); rintro e wx ⟨rfl, rfl⟩) | (go_at_call 49; (with_reducible refine (HQ8.out _).mono ?_); rintro e wx ⟨rfl, rfl⟩) | (go_at_call 49; (with_reducible refine (HQ9.out _).mono ?_); rintro e wx ⟨rfl, rfl⟩) | fail)
    refine (HS.out _).mono ?_
    rintro e w2 ⟨rfl, hb2⟩
    have HB2 := Lib.hid (HBX.out.trans (hb2.mono HBX.out.size))
    clear hb2
    go_wp2_with fail
    go_ret
    exact ⟨rfl, by have := HB2.out; (repeat' (first | (with_reducible exact Below.refl _ _) | (with_reducible refine below_drewN ?_ _) | (with_reducible refine Below.drew ?_) | (with_reducible refine Below.alloc ?_ ?_ _) | (with_reducible refine Below.setCell ?_ ?_ _) | (with_reducible refine Below.trans ?_ (Below.mono (by with_reducible assumption) ?_)) | omega | (simp only [World.size_alloc, World.size_setCell, World.size_drew, Go.Proofs.YtbfbhlpibclccaaDoor.World.size_drewN] at *; omega) | (with_reducible refine Below.size (B := 0) ?_)))⟩
theorem rscale_good {x : V4} {n : Int} (h : (scaleR x n).2 = 0) : goodV x = true := by
  cases hx : goodV x with
  | true => rfl
  | false => unfold scaleR at h; rw [hx] at h; simp at h
theorem good_ref (j : JR) : goodJ j = (inB j.id 1 999 && inB j.tenant 1 999 && inB j.cell 1 4 && inB j.band 0 2 && inB j.tasks 1 8 && goodV j.need && inB j.first 0 1073741824 && inB j.windows 1 8 && inB j.budget 0 100 && inB j.set 0 999 && !(j.env && decide (j.set ≠ 0)) && decide ((scaleR j.need j.tasks).2 = 0)) := by
  unfold goodJ
  have hs : (decide (j.set = 0) || (!j.env && inB j.set 1 999)) = (inB j.set 0 999 && !(j.env && decide (j.set ≠ 0))) := by
    by_cases z : j.set = 0
    · rw [z]; simp [inB]
    · cases y : j.env
      · simp only [z, decide_false, Bool.false_or, Bool.not_false, Bool.true_and, Bool.false_and, Bool.and_true]
        unfold inB
        congr 1
        exact decide_eq_decide.2 (by omega)
      · simp [z]
  rw [hs]
  by_cases h0 : (scaleR j.need j.tasks).2 = 0
  · rw [rscale_good h0, decide_eq_true h0]
    simp only [Bool.true_and, Bool.and_true, Bool.and_assoc]
  · rw [decide_eq_false h0]
    simp only [Bool.false_and, Bool.and_false]
/-- Good. -/
theorem rjgood_c (j : JR) (q : Nat → Int) (w : World) : Calls Tryd.prog 22 #[.agg #[.int .i64 j.id, .int .i64 j.tenant, .int .i64 j.cell, .int .i64 j.band, .int .i64 j.tasks, .int .i64 j.need.a, .int .i64 j.need.b, .int .i64 j.need.c, .int .i64 j.need.d, .int .i64 j.first, .int .i64 j.windows, .int .i64 j.budget, .bool j.env, .int .i64 j.set, .int .i64 (q 0), .int .i64 (q 1), .int .i64 (q 2), .int .i64 (q 3), .int .i64 (q 4), .int .i64 (q 5), .int .i64 (q 6), .int .i64 (q 7)]] w fun e w' => e = .returned (.bool (goodJ j)) ∧ Below w.heap.size w w' := by
  rw [good_ref]
  cases k0 : inB j.id 1 999 with
  | false => simp only [Bool.false_and]; exact rjgood_n0 j q w k0
  | true =>
    cases k1 : inB j.tenant 1 999 with
    | false => simp only [Bool.false_and, Bool.and_false]; exact rjgood_n1 j q w k0 k1
    | true =>
      cases k2 : inB j.cell 1 4 with
      | false => simp only [Bool.false_and, Bool.and_false, Bool.and_true]; exact rjgood_n2 j q w k0 k1 k2
      | true =>
        cases k3 : inB j.band 0 2 with
        | false => simp only [Bool.false_and, Bool.and_false, Bool.and_true]; exact rjgood_n3 j q w k0 k1 k2 k3
        | true =>
          cases k4 : inB j.tasks 1 8 with
          | false => simp only [Bool.false_and, Bool.and_false, Bool.and_true]; exact rjgood_n4 j q w k0 k1 k2 k3 k4
          | true =>
            cases k5 : goodV j.need with
            | false => simp only [Bool.false_and, Bool.and_false, Bool.and_true]; exact rjgood_n5 j q w k0 k1 k2 k3 k4 k5
            | true =>
              cases k6 : inB j.first 0 1073741824 with
              | false => simp only [Bool.false_and, Bool.and_false, Bool.and_true]; exact rjgood_n6 j q w k0 k1 k2 k3 k4 k5 k6
              | true =>
                cases k7 : inB j.windows 1 8 with
                | false => simp only [Bool.false_and, Bool.and_false, Bool.and_true]; exact rjgood_n7 j q w k0 k1 k2 k3 k4 k5 k6 k7
                | true =>
                  cases k8 : inB j.budget 0 100 with
                  | false => simp only [Bool.false_and, Bool.and_false, Bool.and_true]; exact rjgood_n8 j q w k0 k1 k2 k3 k4 k5 k6 k7 k8
                  | true =>
                    cases k9 : inB j.set 0 999 with
                    | false => simp only [Bool.false_and, Bool.and_false, Bool.and_true]; exact rjgood_n9 j q w k0 k1 k2 k3 k4 k5 k6 k7 k8 k9
                    | true =>
                      simp only [Bool.true_and]
                      cases y : j.env with
                      | false => rw [Bool.false_and, Bool.not_false, Bool.true_and]; have := rjgood_e0 j q w k0 k1 k2 k3 k4 k5 k6 k7 k8 k9 y; rw [y] at this; exact this
                      | true =>
                        by_cases z : j.set = 0
                        · rw [decide_eq_false (by simpa using z), Bool.and_false, Bool.not_false, Bool.true_and]; have := rjgood_ez j q w k0 k1 k2 k3 k4 k5 k6 k7 k8 k9 y z; rw [y] at this; exact this
                        · rw [decide_eq_true z, Bool.true_and, Bool.not_true, Bool.false_and]; have := rjgood_env j q w k0 k1 k2 k3 k4 k5 k6 k7 k8 k9 y z; rw [y] at this; exact this
end Go.Proofs.YtbfbhlpibclccaaDoor
