/- Contracts of Add, Sub and Scale of the reference: each returns the plain arithmetic's result and error number. No conditions. -/
import Derived.Test.YthhjdebpbkkpbaaDoorVec
namespace Go.Proofs.YthhjdebpbkkpbaaDoor
open Go Go.RowKit

set_option maxRecDepth 100000 in
set_option maxHeartbeats 800000 in
theorem radd_bad1 (x y : V4) (w : World) (hx : goodV x = false) :
    Calls Tryd.prog 11 #[.agg #[.int .i64 x.a, .int .i64 x.b, .int .i64 x.c, .int .i64 x.d], .agg #[.int .i64 y.a, .int .i64 y.b, .int .i64 y.c, .int .i64 y.d]] w fun e w' => e = .returned (.tuple #[.agg #[.int .i64 ((addR x y).1).a, .int .i64 ((addR x y).1).b, .int .i64 ((addR x y).1).c, .int .i64 ((addR x y).1).d], .int .i64 ((addR x y).2 : Nat)]) ∧ Below w.heap.size w w' := by
  rw [add_no1 hx]
  obtain ⟨a, b, c, d⟩ := x
  obtain ⟨a', b', c', d'⟩ := y
  go_enter Tryd.func11, Tryd.ntmps11
  go_wp2_with fail
  refine (rgood_x ⟨a, b, c, d⟩ _).mono ?_
  rintro e w1 ⟨rfl, rfl⟩
  go_wp2_with fail
  exact bodyPost_ret (v := .tuple #[.agg #[.int .i64 0, .int .i64 0, .int .i64 0, .int .i64 0], .int .i64 1]) (by simp [results, Tryd.results11, go_sem]) rfl ⟨rfl, by (repeat' (first | (with_reducible exact Below.refl _ _) | (with_reducible refine below_drewN ?_ _) | (with_reducible refine Below.drew ?_) | (with_reducible refine Below.alloc ?_ ?_ _) | (with_reducible refine Below.setCell ?_ ?_ _) | (with_reducible refine Below.trans ?_ (Below.mono (by with_reducible assumption) ?_)) | omega | (simp only [World.size_alloc] at *; omega)))⟩

set_option maxRecDepth 100000 in
set_option maxHeartbeats 800000 in
theorem radd_bad2 (x y : V4) (w : World) (hx : goodV x = true) (hy : goodV y = false) :
    Calls Tryd.prog 11 #[.agg #[.int .i64 x.a, .int .i64 x.b, .int .i64 x.c, .int .i64 x.d], .agg #[.int .i64 y.a, .int .i64 y.b, .int .i64 y.c, .int .i64 y.d]] w fun e w' => e = .returned (.tuple #[.agg #[.int .i64 ((addR x y).1).a, .int .i64 ((addR x y).1).b, .int .i64 ((addR x y).1).c, .int .i64 ((addR x y).1).d], .int .i64 ((addR x y).2 : Nat)]) ∧ Below w.heap.size w w' := by
  rw [add_no2 hy]
  obtain ⟨a, b, c, d⟩ := x
  obtain ⟨a', b', c', d'⟩ := y
  go_enter Tryd.func11, Tryd.ntmps11
  go_wp2_with fail
  refine (rgood_x ⟨a, b, c, d⟩ _).mono ?_
  rintro e w1 ⟨rfl, rfl⟩
  go_wp2_with fail
  refine (rgood_x ⟨a', b', c', d'⟩ _).mono ?_
  rintro e w2 ⟨rfl, rfl⟩
  go_wp2_with fail
  exact bodyPost_ret (v := .tuple #[.agg #[.int .i64 0, .int .i64 0, .int .i64 0, .int .i64 0], .int .i64 1]) (by simp [results, Tryd.results11, go_sem]) rfl ⟨rfl, by (repeat' (first | (with_reducible exact Below.refl _ _) | (with_reducible refine below_drewN ?_ _) | (with_reducible refine Below.drew ?_) | (with_reducible refine Below.alloc ?_ ?_ _) | (with_reducible refine Below.setCell ?_ ?_ _) | (with_reducible refine Below.trans ?_ (Below.mono (by with_reducible assumption) ?_)) | omega | (simp only [World.size_alloc] at *; omega)))⟩

set_option maxRecDepth 100000 in
set_option maxHeartbeats 800000 in
theorem radd_yes (x y : V4) (w : World) (hx : goodV x = true) (hy : goodV y = true) (hz : goodV ⟨x.a + y.a, x.b + y.b, x.c + y.c, x.d + y.d⟩ = true) :
    Calls Tryd.prog 11 #[.agg #[.int .i64 x.a, .int .i64 x.b, .int .i64 x.c, .int .i64 x.d], .agg #[.int .i64 y.a, .int .i64 y.b, .int .i64 y.c, .int .i64 y.d]] w fun e w' => e = .returned (.tuple #[.agg #[.int .i64 ((addR x y).1).a, .int .i64 ((addR x y).1).b, .int .i64 ((addR x y).1).c, .int .i64 ((addR x y).1).d], .int .i64 ((addR x y).2 : Nat)]) ∧ Below w.heap.size w w' := by
  rw [add_yes hx hy, show checkR _ = _ from if_pos (by rw [hz])]
  have gx := (good_iff x).1 hx
  have gy := (good_iff y).1 hy
  obtain ⟨a, b, c, d⟩ := x
  obtain ⟨a', b', c', d'⟩ := y
  simp only at gx gy
  obtain ⟨⟨g0, g0'⟩, ⟨g1, g1'⟩, ⟨g2, g2'⟩, ⟨g3, g3'⟩⟩ := gx
  obtain ⟨⟨k0, k0'⟩, ⟨k1, k1'⟩, ⟨k2, k2'⟩, ⟨k3, k3'⟩⟩ := gy
  simp only at hz
  go_enter Tryd.func11, Tryd.ntmps11
  go_wp2_with fail
  refine (rgood_x ⟨a, b, c, d⟩ _).mono ?_
  rintro e w1 ⟨rfl, rfl⟩
  go_wp2_with fail
  refine (rgood_x ⟨a', b', c', d'⟩ _).mono ?_
  rintro e w2 ⟨rfl, rfl⟩
  go_wp2_with fail
  refine wp_loop_rounds 5 ?_
  repeat any_goals (rw [rounds_succ]; go_wp2_with fail; try (go_region; all_goals go_wp2_with fail))
  refine (rgood_x ⟨a + a', b + b', c + c', d + d'⟩ _).mono ?_
  rintro e w3 ⟨rfl, rfl⟩
  go_wp2_with fail
  exact bodyPost_ret (v := .tuple #[.agg #[.int .i64 (a + a'), .int .i64 (b + b'), .int .i64 (c + c'), .int .i64 (d + d')], .int .i64 0]) (by simp [results, Tryd.results11, go_sem]) rfl ⟨rfl, by (repeat' (first | (with_reducible exact Below.refl _ _) | (with_reducible refine below_drewN ?_ _) | (with_reducible refine Below.drew ?_) | (with_reducible refine Below.alloc ?_ ?_ _) | (with_reducible refine Below.setCell ?_ ?_ _) | (with_reducible refine Below.trans ?_ (Below.mono (by with_reducible assumption) ?_)) | omega | (simp only [World.size_alloc] at *; omega)))⟩

set_option maxRecDepth 100000 in
set_option maxHeartbeats 800000 in
theorem radd_over (x y : V4) (w : World) (hx : goodV x = true) (hy : goodV y = true) (hz : goodV ⟨x.a + y.a, x.b + y.b, x.c + y.c, x.d + y.d⟩ = false) :
    Calls Tryd.prog 11 #[.agg #[.int .i64 x.a, .int .i64 x.b, .int .i64 x.c, .int .i64 x.d], .agg #[.int .i64 y.a, .int .i64 y.b, .int .i64 y.c, .int .i64 y.d]] w fun e w' => e = .returned (.tuple #[.agg #[.int .i64 ((addR x y).1).a, .int .i64 ((addR x y).1).b, .int .i64 ((addR x y).1).c, .int .i64 ((addR x y).1).d], .int .i64 ((addR x y).2 : Nat)]) ∧ Below w.heap.size w w' := by
  rw [add_yes hx hy, show checkR _ = _ from if_neg (by rw [hz]; simp)]
  have gx := (good_iff x).1 hx
  have gy := (good_iff y).1 hy
  obtain ⟨a, b, c, d⟩ := x
  obtain ⟨a', b', c', d'⟩ := y
  simp only at gx gy
  obtain ⟨⟨g0, g0'⟩, ⟨g1, g1'⟩, ⟨g2, g2'⟩, ⟨g3, g3'⟩⟩ := gx
  obtain ⟨⟨k0, k0'⟩, ⟨k1, k1'⟩, ⟨k2, k2'⟩, ⟨k3, k3'⟩⟩ := gy
  simp only at hz
  go_enter Tryd.func11, Tryd.ntmps11
  go_wp2_with fail
  refine (rgood_x ⟨a, b, c, d⟩ _).mono ?_
  rintro e w1 ⟨rfl, rfl⟩
  go_wp2_with fail
  refine (rgood_x ⟨a', b', c', d'⟩ _).mono ?_
  rintro e w2 ⟨rfl, rfl⟩
  go_wp2_with fail
  refine wp_loop_rounds 5 ?_
  repeat any_goals (rw [rounds_succ]; go_wp2_with fail; try (go_region; all_goals go_wp2_with fail))
  refine (rgood_x ⟨a + a', b + b', c + c', d + d'⟩ _).mono ?_
  rintro e w3 ⟨rfl, rfl⟩
  go_wp2_with fail
  exact bodyPost_ret (v := .tuple #[.agg #[.int .i64 0, .int .i64 0, .int .i64 0, .int .i64 0], .int .i64 4]) (by simp [results, Tryd.results11, go_sem]) rfl ⟨rfl, by (repeat' (first | (with_reducible exact Below.refl _ _) | (with_reducible refine below_drewN ?_ _) | (with_reducible refine Below.drew ?_) | (with_reducible refine Below.alloc ?_ ?_ _) | (with_reducible refine Below.setCell ?_ ?_ _) | (with_reducible refine Below.trans ?_ (Below.mono (by with_reducible assumption) ?_)) | omega | (simp only [World.size_alloc] at *; omega)))⟩

theorem radd_c (x y : V4) (w : World) :
    Calls Tryd.prog 11 #[.agg #[.int .i64 x.a, .int .i64 x.b, .int .i64 x.c, .int .i64 x.d], .agg #[.int .i64 y.a, .int .i64 y.b, .int .i64 y.c, .int .i64 y.d]] w fun e w' => e = .returned (.tuple #[.agg #[.int .i64 ((addR x y).1).a, .int .i64 ((addR x y).1).b, .int .i64 ((addR x y).1).c, .int .i64 ((addR x y).1).d], .int .i64 ((addR x y).2 : Nat)]) ∧ Below w.heap.size w w' := by
  cases hx : goodV x
  · exact radd_bad1 x y w hx
  · cases hy : goodV y
    · exact radd_bad2 x y w hx hy
    · cases hz : goodV ⟨x.a + y.a, x.b + y.b, x.c + y.c, x.d + y.d⟩
      · exact radd_over x y w hx hy hz
      · exact radd_yes x y w hx hy hz

set_option maxRecDepth 100000 in
set_option maxHeartbeats 800000 in
theorem rsub_bad1 (x y : V4) (w : World) (hx : goodV x = false) :
    Calls Tryd.prog 12 #[.agg #[.int .i64 x.a, .int .i64 x.b, .int .i64 x.c, .int .i64 x.d], .agg #[.int .i64 y.a, .int .i64 y.b, .int .i64 y.c, .int .i64 y.d]] w fun e w' => e = .returned (.tuple #[.agg #[.int .i64 ((subR x y).1).a, .int .i64 ((subR x y).1).b, .int .i64 ((subR x y).1).c, .int .i64 ((subR x y).1).d], .int .i64 ((subR x y).2 : Nat)]) ∧ Below w.heap.size w w' := by
  rw [sub_no1 hx]
  obtain ⟨a, b, c, d⟩ := x
  obtain ⟨a', b', c', d'⟩ := y
  go_enter Tryd.func12, Tryd.ntmps12
  go_wp2_with fail
  refine (rgood_x ⟨a, b, c, d⟩ _).mono ?_
  rintro e w1 ⟨rfl, rfl⟩
  go_wp2_with fail
  exact bodyPost_ret (v := .tuple #[.agg #[.int .i64 0, .int .i64 0, .int .i64 0, .int .i64 0], .int .i64 1]) (by simp [results, Tryd.results12, go_sem]) rfl ⟨rfl, by (repeat' (first | (with_reducible exact Below.refl _ _) | (with_reducible refine below_drewN ?_ _) | (with_reducible refine Below.drew ?_) | (with_reducible refine Below.alloc ?_ ?_ _) | (with_reducible refine Below.setCell ?_ ?_ _) | (with_reducible refine Below.trans ?_ (Below.mono (by with_reducible assumption) ?_)) | omega | (simp only [World.size_alloc] at *; omega)))⟩

set_option maxRecDepth 100000 in
set_option maxHeartbeats 800000 in
theorem rsub_bad2 (x y : V4) (w : World) (hx : goodV x = true) (hy : goodV y = false) :
    Calls Tryd.prog 12 #[.agg #[.int .i64 x.a, .int .i64 x.b, .int .i64 x.c, .int .i64 x.d], .agg #[.int .i64 y.a, .int .i64 y.b, .int .i64 y.c, .int .i64 y.d]] w fun e w' => e = .returned (.tuple #[.agg #[.int .i64 ((subR x y).1).a, .int .i64 ((subR x y).1).b, .int .i64 ((subR x y).1).c, .int .i64 ((subR x y).1).d], .int .i64 ((subR x y).2 : Nat)]) ∧ Below w.heap.size w w' := by
  rw [sub_no2 hy]
  obtain ⟨a, b, c, d⟩ := x
  obtain ⟨a', b', c', d'⟩ := y
  go_enter Tryd.func12, Tryd.ntmps12
  go_wp2_with fail
  refine (rgood_x ⟨a, b, c, d⟩ _).mono ?_
  rintro e w1 ⟨rfl, rfl⟩
  go_wp2_with fail
  refine (rgood_x ⟨a', b', c', d'⟩ _).mono ?_
  rintro e w2 ⟨rfl, rfl⟩
  go_wp2_with fail
  exact bodyPost_ret (v := .tuple #[.agg #[.int .i64 0, .int .i64 0, .int .i64 0, .int .i64 0], .int .i64 1]) (by simp [results, Tryd.results12, go_sem]) rfl ⟨rfl, by (repeat' (first | (with_reducible exact Below.refl _ _) | (with_reducible refine below_drewN ?_ _) | (with_reducible refine Below.drew ?_) | (with_reducible refine Below.alloc ?_ ?_ _) | (with_reducible refine Below.setCell ?_ ?_ _) | (with_reducible refine Below.trans ?_ (Below.mono (by with_reducible assumption) ?_)) | omega | (simp only [World.size_alloc] at *; omega)))⟩

set_option maxRecDepth 100000 in
set_option maxHeartbeats 800000 in
theorem rsub_yes (x y : V4) (w : World) (hx : goodV x = true) (hy : goodV y = true) (hz : goodV ⟨x.a - y.a, x.b - y.b, x.c - y.c, x.d - y.d⟩ = true) :
    Calls Tryd.prog 12 #[.agg #[.int .i64 x.a, .int .i64 x.b, .int .i64 x.c, .int .i64 x.d], .agg #[.int .i64 y.a, .int .i64 y.b, .int .i64 y.c, .int .i64 y.d]] w fun e w' => e = .returned (.tuple #[.agg #[.int .i64 ((subR x y).1).a, .int .i64 ((subR x y).1).b, .int .i64 ((subR x y).1).c, .int .i64 ((subR x y).1).d], .int .i64 ((subR x y).2 : Nat)]) ∧ Below w.heap.size w w' := by
  rw [sub_yes hx hy, show checkR _ = _ from if_pos (by rw [hz])]
  have gx := (good_iff x).1 hx
  have gy := (good_iff y).1 hy
  obtain ⟨a, b, c, d⟩ := x
  obtain ⟨a', b', c', d'⟩ := y
  simp only at gx gy
  obtain ⟨⟨g0, g0'⟩, ⟨g1, g1'⟩, ⟨g2, g2'⟩, ⟨g3, g3'⟩⟩ := gx
  obtain ⟨⟨k0, k0'⟩, ⟨k1, k1'⟩, ⟨k2, k2'⟩, ⟨k3, k3'⟩⟩ := gy
  simp only at hz
  go_enter Tryd.func12, Tryd.ntmps12
  go_wp2_with fail
  refine (rgood_x ⟨a, b, c, d⟩ _).mono ?_
  rintro e w1 ⟨rfl, rfl⟩
  go_wp2_with fail
  refine (rgood_x ⟨a', b', c', d'⟩ _).mono ?_
  rintro e w2 ⟨rfl, rfl⟩
  go_wp2_with fail
  refine wp_loop_rounds 5 ?_
  repeat any_goals (rw [rounds_succ]; go_wp2_with fail; try (go_region; all_goals go_wp2_with fail))
  refine (rgood_x ⟨a - a', b - b', c - c', d - d'⟩ _).mono ?_
  rintro e w3 ⟨rfl, rfl⟩
  go_wp2_with fail
  exact bodyPost_ret (v := .tuple #[.agg #[.int .i64 (a - a'), .int .i64 (b - b'), .int .i64 (c - c'), .int .i64 (d - d')], .int .i64 0]) (by simp [results, Tryd.results12, go_sem]) rfl ⟨rfl, by (repeat' (first | (with_reducible exact Below.refl _ _) | (with_reducible refine below_drewN ?_ _) | (with_reducible refine Below.drew ?_) | (with_reducible refine Below.alloc ?_ ?_ _) | (with_reducible refine Below.setCell ?_ ?_ _) | (with_reducible refine Below.trans ?_ (Below.mono (by with_reducible assumption) ?_)) | omega | (simp only [World.size_alloc] at *; omega)))⟩

set_option maxRecDepth 100000 in
set_option maxHeartbeats 800000 in
theorem rsub_over (x y : V4) (w : World) (hx : goodV x = true) (hy : goodV y = true) (hz : goodV ⟨x.a - y.a, x.b - y.b, x.c - y.c, x.d - y.d⟩ = false) :
    Calls Tryd.prog 12 #[.agg #[.int .i64 x.a, .int .i64 x.b, .int .i64 x.c, .int .i64 x.d], .agg #[.int .i64 y.a, .int .i64 y.b, .int .i64 y.c, .int .i64 y.d]] w fun e w' => e = .returned (.tuple #[.agg #[.int .i64 ((subR x y).1).a, .int .i64 ((subR x y).1).b, .int .i64 ((subR x y).1).c, .int .i64 ((subR x y).1).d], .int .i64 ((subR x y).2 : Nat)]) ∧ Below w.heap.size w w' := by
  rw [sub_yes hx hy, show checkR _ = _ from if_neg (by rw [hz]; simp)]
  have gx := (good_iff x).1 hx
  have gy := (good_iff y).1 hy
  obtain ⟨a, b, c, d⟩ := x
  obtain ⟨a', b', c', d'⟩ := y
  simp only at gx gy
  obtain ⟨⟨g0, g0'⟩, ⟨g1, g1'⟩, ⟨g2, g2'⟩, ⟨g3, g3'⟩⟩ := gx
  obtain ⟨⟨k0, k0'⟩, ⟨k1, k1'⟩, ⟨k2, k2'⟩, ⟨k3, k3'⟩⟩ := gy
  simp only at hz
  go_enter Tryd.func12, Tryd.ntmps12
  go_wp2_with fail
  refine (rgood_x ⟨a, b, c, d⟩ _).mono ?_
  rintro e w1 ⟨rfl, rfl⟩
  go_wp2_with fail
  refine (rgood_x ⟨a', b', c', d'⟩ _).mono ?_
  rintro e w2 ⟨rfl, rfl⟩
  go_wp2_with fail
  refine wp_loop_rounds 5 ?_
  repeat any_goals (rw [rounds_succ]; go_wp2_with fail; try (go_region; all_goals go_wp2_with fail))
  refine (rgood_x ⟨a - a', b - b', c - c', d - d'⟩ _).mono ?_
  rintro e w3 ⟨rfl, rfl⟩
  go_wp2_with fail
  exact bodyPost_ret (v := .tuple #[.agg #[.int .i64 0, .int .i64 0, .int .i64 0, .int .i64 0], .int .i64 4]) (by simp [results, Tryd.results12, go_sem]) rfl ⟨rfl, by (repeat' (first | (with_reducible exact Below.refl _ _) | (with_reducible refine below_drewN ?_ _) | (with_reducible refine Below.drew ?_) | (with_reducible refine Below.alloc ?_ ?_ _) | (with_reducible refine Below.setCell ?_ ?_ _) | (with_reducible refine Below.trans ?_ (Below.mono (by with_reducible assumption) ?_)) | omega | (simp only [World.size_alloc] at *; omega)))⟩

theorem rsub_c (x y : V4) (w : World) :
    Calls Tryd.prog 12 #[.agg #[.int .i64 x.a, .int .i64 x.b, .int .i64 x.c, .int .i64 x.d], .agg #[.int .i64 y.a, .int .i64 y.b, .int .i64 y.c, .int .i64 y.d]] w fun e w' => e = .returned (.tuple #[.agg #[.int .i64 ((subR x y).1).a, .int .i64 ((subR x y).1).b, .int .i64 ((subR x y).1).c, .int .i64 ((subR x y).1).d], .int .i64 ((subR x y).2 : Nat)]) ∧ Below w.heap.size w w' := by
  cases hx : goodV x
  · exact rsub_bad1 x y w hx
  · cases hy : goodV y
    · exact rsub_bad2 x y w hx hy
    · cases hz : goodV ⟨x.a - y.a, x.b - y.b, x.c - y.c, x.d - y.d⟩
      · exact rsub_over x y w hx hy hz
      · exact rsub_yes x y w hx hy hz

set_option maxRecDepth 100000 in
set_option maxHeartbeats 800000 in
theorem rscale_bad1 (x : V4) (n : Int) (w : World) (hx : goodV x = false) :
    Calls Tryd.prog 13 #[.agg #[.int .i64 x.a, .int .i64 x.b, .int .i64 x.c, .int .i64 x.d], .int .i64 n] w fun e w' => e = .returned (.tuple #[.agg #[.int .i64 ((scaleR x n).1).a, .int .i64 ((scaleR x n).1).b, .int .i64 ((scaleR x n).1).c, .int .i64 ((scaleR x n).1).d], .int .i64 ((scaleR x n).2 : Nat)]) ∧ Below w.heap.size w w' := by
  rw [scale_no1 hx]
  obtain ⟨a, b, c, d⟩ := x
  go_enter Tryd.func13, Tryd.ntmps13
  go_wp2_with fail
  refine (rgood_x ⟨a, b, c, d⟩ _).mono ?_
  rintro e w1 ⟨rfl, rfl⟩
  go_wp2_with fail
  exact bodyPost_ret (v := .tuple #[.agg #[.int .i64 0, .int .i64 0, .int .i64 0, .int .i64 0], .int .i64 1]) (by simp [results, Tryd.results13, go_sem]) rfl ⟨rfl, by (repeat' (first | (with_reducible exact Below.refl _ _) | (with_reducible refine below_drewN ?_ _) | (with_reducible refine Below.drew ?_) | (with_reducible refine Below.alloc ?_ ?_ _) | (with_reducible refine Below.setCell ?_ ?_ _) | (with_reducible refine Below.trans ?_ (Below.mono (by with_reducible assumption) ?_)) | omega | (simp only [World.size_alloc] at *; omega)))⟩

set_option maxRecDepth 100000 in
set_option maxHeartbeats 800000 in
theorem rscale_bad2 (x : V4) (n : Int) (w : World) (hx : goodV x = true) (hn : n < 0) :
    Calls Tryd.prog 13 #[.agg #[.int .i64 x.a, .int .i64 x.b, .int .i64 x.c, .int .i64 x.d], .int .i64 n] w fun e w' => e = .returned (.tuple #[.agg #[.int .i64 ((scaleR x n).1).a, .int .i64 ((scaleR x n).1).b, .int .i64 ((scaleR x n).1).c, .int .i64 ((scaleR x n).1).d], .int .i64 ((scaleR x n).2 : Nat)]) ∧ Below w.heap.size w w' := by
  rw [scale_no2 (by omega)]
  obtain ⟨a, b, c, d⟩ := x
  go_enter Tryd.func13, Tryd.ntmps13
  go_wp2_with fail
  refine (rgood_x ⟨a, b, c, d⟩ _).mono ?_
  rintro e w1 ⟨rfl, rfl⟩
  go_wp2_with fail
  exact bodyPost_ret (v := .tuple #[.agg #[.int .i64 0, .int .i64 0, .int .i64 0, .int .i64 0], .int .i64 1]) (by simp [results, Tryd.results13, go_sem]) rfl ⟨rfl, by (repeat' (first | (with_reducible exact Below.refl _ _) | (with_reducible refine below_drewN ?_ _) | (with_reducible refine Below.drew ?_) | (with_reducible refine Below.alloc ?_ ?_ _) | (with_reducible refine Below.setCell ?_ ?_ _) | (with_reducible refine Below.trans ?_ (Below.mono (by with_reducible assumption) ?_)) | omega | (simp only [World.size_alloc] at *; omega)))⟩

set_option maxRecDepth 100000 in
set_option maxHeartbeats 800000 in
theorem rscale_bad3 (x : V4) (n : Int) (w : World) (hx : goodV x = true) (hn0 : 0 ≤ n) (hn : 16 < n) :
    Calls Tryd.prog 13 #[.agg #[.int .i64 x.a, .int .i64 x.b, .int .i64 x.c, .int .i64 x.d], .int .i64 n] w fun e w' => e = .returned (.tuple #[.agg #[.int .i64 ((scaleR x n).1).a, .int .i64 ((scaleR x n).1).b, .int .i64 ((scaleR x n).1).c, .int .i64 ((scaleR x n).1).d], .int .i64 ((scaleR x n).2 : Nat)]) ∧ Below w.heap.size w w' := by
  rw [scale_no2 (by omega)]
  obtain ⟨a, b, c, d⟩ := x
  go_enter Tryd.func13, Tryd.ntmps13
  go_wp2_with fail
  refine (rgood_x ⟨a, b, c, d⟩ _).mono ?_
  rintro e w1 ⟨rfl, rfl⟩
  go_wp2_with fail
  exact bodyPost_ret (v := .tuple #[.agg #[.int .i64 0, .int .i64 0, .int .i64 0, .int .i64 0], .int .i64 1]) (by simp [results, Tryd.results13, go_sem]) rfl ⟨rfl, by (repeat' (first | (with_reducible exact Below.refl _ _) | (with_reducible refine below_drewN ?_ _) | (with_reducible refine Below.drew ?_) | (with_reducible refine Below.alloc ?_ ?_ _) | (with_reducible refine Below.setCell ?_ ?_ _) | (with_reducible refine Below.trans ?_ (Below.mono (by with_reducible assumption) ?_)) | omega | (simp only [World.size_alloc] at *; omega)))⟩

set_option maxRecDepth 100000 in
set_option maxHeartbeats 800000 in
theorem rscale_yes (x : V4) (n : Int) (w : World) (hx : goodV x = true) (hn0 : 0 ≤ n) (hn1 : n ≤ 16) (hz : goodV ⟨x.a * n, x.b * n, x.c * n, x.d * n⟩ = true) :
    Calls Tryd.prog 13 #[.agg #[.int .i64 x.a, .int .i64 x.b, .int .i64 x.c, .int .i64 x.d], .int .i64 n] w fun e w' => e = .returned (.tuple #[.agg #[.int .i64 ((scaleR x n).1).a, .int .i64 ((scaleR x n).1).b, .int .i64 ((scaleR x n).1).c, .int .i64 ((scaleR x n).1).d], .int .i64 ((scaleR x n).2 : Nat)]) ∧ Below w.heap.size w w' := by
  rw [scale_yes hx ⟨hn0, hn1⟩, show checkR _ = _ from if_pos (by rw [hz])]
  have gx := (good_iff x).1 hx
  obtain ⟨a, b, c, d⟩ := x
  simp only at gx
  obtain ⟨⟨m0, m0'⟩, ⟨m1, m1'⟩, ⟨m2, m2'⟩, ⟨m3, m3'⟩⟩ := And.intro (mul_bd gx.1 ⟨hn0, hn1⟩) (And.intro (mul_bd gx.2.1 ⟨hn0, hn1⟩) (And.intro (mul_bd gx.2.2.1 ⟨hn0, hn1⟩) (mul_bd gx.2.2.2 ⟨hn0, hn1⟩)))
  obtain ⟨⟨g0, g0'⟩, ⟨g1, g1'⟩, ⟨g2, g2'⟩, ⟨g3, g3'⟩⟩ := gx
  simp only at hz
  go_enter Tryd.func13, Tryd.ntmps13
  go_wp2_with fail
  refine (rgood_x ⟨a, b, c, d⟩ _).mono ?_
  rintro e w1 ⟨rfl, rfl⟩
  go_wp2_with fail
  refine wp_loop_rounds 5 ?_
  repeat any_goals (rw [rounds_succ]; go_wp2_with fail; try (go_region; all_goals go_wp2_with fail))
  refine (rgood_x ⟨a * n, b * n, c * n, d * n⟩ _).mono ?_
  rintro e w3 ⟨rfl, rfl⟩
  go_wp2_with fail
  exact bodyPost_ret (v := .tuple #[.agg #[.int .i64 (a * n), .int .i64 (b * n), .int .i64 (c * n), .int .i64 (d * n)], .int .i64 0]) (by simp [results, Tryd.results13, go_sem]) rfl ⟨rfl, by (repeat' (first | (with_reducible exact Below.refl _ _) | (with_reducible refine below_drewN ?_ _) | (with_reducible refine Below.drew ?_) | (with_reducible refine Below.alloc ?_ ?_ _) | (with_reducible refine Below.setCell ?_ ?_ _) | (with_reducible refine Below.trans ?_ (Below.mono (by with_reducible assumption) ?_)) | omega | (simp only [World.size_alloc] at *; omega)))⟩

set_option maxRecDepth 100000 in
set_option maxHeartbeats 800000 in
theorem rscale_over (x : V4) (n : Int) (w : World) (hx : goodV x = true) (hn0 : 0 ≤ n) (hn1 : n ≤ 16) (hz : goodV ⟨x.a * n, x.b * n, x.c * n, x.d * n⟩ = false) :
    Calls Tryd.prog 13 #[.agg #[.int .i64 x.a, .int .i64 x.b, .int .i64 x.c, .int .i64 x.d], .int .i64 n] w fun e w' => e = .returned (.tuple #[.agg #[.int .i64 ((scaleR x n).1).a, .int .i64 ((scaleR x n).1).b, .int .i64 ((scaleR x n).1).c, .int .i64 ((scaleR x n).1).d], .int .i64 ((scaleR x n).2 : Nat)]) ∧ Below w.heap.size w w' := by
  rw [scale_yes hx ⟨hn0, hn1⟩, show checkR _ = _ from if_neg (by rw [hz]; simp)]
  have gx := (good_iff x).1 hx
  obtain ⟨a, b, c, d⟩ := x
  simp only at gx
  obtain ⟨⟨m0, m0'⟩, ⟨m1, m1'⟩, ⟨m2, m2'⟩, ⟨m3, m3'⟩⟩ := And.intro (mul_bd gx.1 ⟨hn0, hn1⟩) (And.intro (mul_bd gx.2.1 ⟨hn0, hn1⟩) (And.intro (mul_bd gx.2.2.1 ⟨hn0, hn1⟩) (mul_bd gx.2.2.2 ⟨hn0, hn1⟩)))
  obtain ⟨⟨g0, g0'⟩, ⟨g1, g1'⟩, ⟨g2, g2'⟩, ⟨g3, g3'⟩⟩ := gx
  simp only at hz
  go_enter Tryd.func13, Tryd.ntmps13
  go_wp2_with fail
  refine (rgood_x ⟨a, b, c, d⟩ _).mono ?_
  rintro e w1 ⟨rfl, rfl⟩
  go_wp2_with fail
  refine wp_loop_rounds 5 ?_
  repeat any_goals (rw [rounds_succ]; go_wp2_with fail; try (go_region; all_goals go_wp2_with fail))
  refine (rgood_x ⟨a * n, b * n, c * n, d * n⟩ _).mono ?_
  rintro e w3 ⟨rfl, rfl⟩
  go_wp2_with fail
  exact bodyPost_ret (v := .tuple #[.agg #[.int .i64 0, .int .i64 0, .int .i64 0, .int .i64 0], .int .i64 4]) (by simp [results, Tryd.results13, go_sem]) rfl ⟨rfl, by (repeat' (first | (with_reducible exact Below.refl _ _) | (with_reducible refine below_drewN ?_ _) | (with_reducible refine Below.drew ?_) | (with_reducible refine Below.alloc ?_ ?_ _) | (with_reducible refine Below.setCell ?_ ?_ _) | (with_reducible refine Below.trans ?_ (Below.mono (by with_reducible assumption) ?_)) | omega | (simp only [World.size_alloc] at *; omega)))⟩

theorem rscale_c (x : V4) (n : Int) (w : World) :
    Calls Tryd.prog 13 #[.agg #[.int .i64 x.a, .int .i64 x.b, .int .i64 x.c, .int .i64 x.d], .int .i64 n] w fun e w' => e = .returned (.tuple #[.agg #[.int .i64 ((scaleR x n).1).a, .int .i64 ((scaleR x n).1).b, .int .i64 ((scaleR x n).1).c, .int .i64 ((scaleR x n).1).d], .int .i64 ((scaleR x n).2 : Nat)]) ∧ Below w.heap.size w w' := by
  cases hx : goodV x
  · exact rscale_bad1 x n w hx
  · by_cases h0 : n < 0
    · exact rscale_bad2 x n w hx h0
    · by_cases h1 : 16 < n
      · exact rscale_bad3 x n w hx (by omega) h1
      · cases hz : goodV ⟨x.a * n, x.b * n, x.c * n, x.d * n⟩
        · exact rscale_over x n w hx (by omega) (by omega) hz
        · exact rscale_yes x n w hx (by omega) (by omega) hz

end Go.Proofs.YthhjdebpbkkpbaaDoor
