/- Contracts of Add, Sub and Scale of the reference: each returns the plain arithmetic's result and error number. No conditions. -/
import Derived.Test.YtejaljcgcmdlgaaDoorVec
namespace Go.Proofs.YtejaljcgcmdlgaaDoor
open Go Go.RowKit

set_option maxRecDepth 100000 in
set_option maxHeartbeats 800000 in
theorem rsub_bad1 (x y : V4) (w : World) (hx : goodV x = false) :
    Calls Tryd.prog 25 #[.agg #[.int .i64 x.a, .int .i64 x.b, .int .i64 x.c, .int .i64 x.d], .agg #[.int .i64 y.a, .int .i64 y.b, .int .i64 y.c, .int .i64 y.d]] w fun e w' => e = .returned (.tuple #[.agg #[.int .i64 ((subR x y).1).a, .int .i64 ((subR x y).1).b, .int .i64 ((subR x y).1).c, .int .i64 ((subR x y).1).d], .int .i64 ((subR x y).2 : Nat)]) ∧ Below w.heap.size w w' := by
  rw [sub_no1 hx]
  obtain ⟨a, b, c, d⟩ := x
  obtain ⟨a', b', c', d'⟩ := y
  go_enter Tryd.func25, Tryd.ntmps25
  go_wp2_with fail
  refine (rgood_x ⟨a, b, c, d⟩ _).mono ?_
  rintro e w1 ⟨rfl, rfl⟩
  go_wp2_with fail
  exact bodyPost_ret (v := .tuple #[.agg #[.int .i64 0, .int .i64 0, .int .i64 0, .int .i64 0], .int .i64 1]) (by simp [results, Tryd.results25, go_sem]) rfl ⟨rfl, by (repeat' (first | (with_reducible exact Below.refl _ _) | (with_reducible refine below_drewN ?_ _) | (with_reducible refine Below.drew ?_) | (with_reducible refine Below.alloc ?_ ?_ _) | (with_reducible refine Below.setCell ?_ ?_ _) | (with_reducible refine Below.trans ?_ (Below.mono (by with_reducible assumption) ?_)) | omega | (simp only [World.size_alloc] at *; omega) | (with_reducible refine Below.size (B := 0) ?_)))⟩

set_option maxRecDepth 100000 in
set_option maxHeartbeats 800000 in
theorem rsub_bad2 (x y : V4) (w : World) (hx : goodV x = true) (hy : goodV y = false) :
    Calls Tryd.prog 25 #[.agg #[.int .i64 x.a, .int .i64 x.b, .int .i64 x.c, .int .i64 x.d], .agg #[.int .i64 y.a, .int .i64 y.b, .int .i64 y.c, .int .i64 y.d]] w fun e w' => e = .returned (.tuple #[.agg #[.int .i64 ((subR x y).1).a, .int .i64 ((subR x y).1).b, .int .i64 ((subR x y).1).c, .int .i64 ((subR x y).1).d], .int .i64 ((subR x y).2 : Nat)]) ∧ Below w.heap.size w w' := by
  rw [sub_no2 hy]
  obtain ⟨a, b, c, d⟩ := x
  obtain ⟨a', b', c', d'⟩ := y
  go_enter Tryd.func25, Tryd.ntmps25
  go_wp2_with fail
  refine (rgood_x ⟨a, b, c, d⟩ _).mono ?_
  rintro e w1 ⟨rfl, rfl⟩
  go_wp2_with fail
  refine (rgood_x ⟨a', b', c', d'⟩ _).mono ?_
  rintro e w2 ⟨rfl, rfl⟩
  go_wp2_with fail
  exact bodyPost_ret (v := .tuple #[.agg #[.int .i64 0, .int .i64 0, .int .i64 0, .int .i64 0], .int .i64 1]) (by simp [results, Tryd.results25, go_sem]) rfl ⟨rfl, by (repeat' (first | (with_reducible exact Below.refl _ _) | (with_reducible refine below_drewN ?_ _) | (with_reducible refine Below.drew ?_) | (with_reducible refine Below.alloc ?_ ?_ _) | (with_reducible refine Below.setCell ?_ ?_ _) | (with_reducible refine Below.trans ?_ (Below.mono (by with_reducible assumption) ?_)) | omega | (simp only [World.size_alloc] at *; omega) | (with_reducible refine Below.size (B := 0) ?_)))⟩

set_option maxRecDepth 100000 in
set_option maxHeartbeats 800000 in
theorem rsub_yes (x y : V4) (w : World) (hx : goodV x = true) (hy : goodV y = true) (hz : goodV ⟨x.a - y.a, x.b - y.b, x.c - y.c, x.d - y.d⟩ = true) :
    Calls Tryd.prog 25 #[.agg #[.int .i64 x.a, .int .i64 x.b, .int .i64 x.c, .int .i64 x.d], .agg #[.int .i64 y.a, .int .i64 y.b, .int .i64 y.c, .int .i64 y.d]] w fun e w' => e = .returned (.tuple #[.agg #[.int .i64 ((subR x y).1).a, .int .i64 ((subR x y).1).b, .int .i64 ((subR x y).1).c, .int .i64 ((subR x y).1).d], .int .i64 ((subR x y).2 : Nat)]) ∧ Below w.heap.size w w' := by
  rw [sub_yes hx hy, show checkR _ = _ from if_pos (by rw [hz])]
  have gx := (good_iff x).1 hx
  have gy := (good_iff y).1 hy
  obtain ⟨a, b, c, d⟩ := x
  obtain ⟨a', b', c', d'⟩ := y
  simp only at gx gy
  obtain ⟨⟨g0, g0'⟩, ⟨g1, g1'⟩, ⟨g2, g2'⟩, ⟨g3, g3'⟩⟩ := gx
  obtain ⟨⟨k0, k0'⟩, ⟨k1, k1'⟩, ⟨k2, k2'⟩, ⟨k3, k3'⟩⟩ := gy
  simp only at hz
  go_enter Tryd.func25, Tryd.ntmps25
  go_wp2_with fail
  refine (rgood_x ⟨a, b, c, d⟩ _).mono ?_
  rintro e w1 ⟨rfl, rfl⟩
  go_wp2_with fail
  refine (rgood_x ⟨a', b', c', d'⟩ _).mono ?_
  rintro e w2 ⟨rfl, rfl⟩
  go_wp2_with fail
  refine wp_loop_rounds 5 ?_
  repeat any_goals (rw [rounds_succ]; go_wp2_with fail; try (go_region; all_goals go_wp2_with fail))
  refine (rgood_x ⟨a - a', b - b', c - c', d - d'⟩ _).mono ?_
  rintro e w3 ⟨rfl, rfl⟩
  go_wp2_with fail
  exact bodyPost_ret (v := .tuple #[.agg #[.int .i64 (a - a'), .int .i64 (b - b'), .int .i64 (c - c'), .int .i64 (d - d')], .int .i64 0]) (by simp [results, Tryd.results25, go_sem]) rfl ⟨rfl, by (repeat' (first | (with_reducible exact Below.refl _ _) | (with_reducible refine below_drewN ?_ _) | (with_reducible refine Below.drew ?_) | (with_reducible refine Below.alloc ?_ ?_ _) | (with_reducible refine Below.setCell ?_ ?_ _) | (with_reducible refine Below.trans ?_ (Below.mono (by with_reducible assumption) ?_)) | omega | (simp only [World.size_alloc] at *; omega) | (with_reducible refine Below.size (B := 0) ?_)))⟩

set_option maxRecDepth 100000 in
set_option maxHeartbeats 800000 in
theorem rsub_over (x y : V4) (w : World) (hx : goodV x = true) (hy : goodV y = true) (hz : goodV ⟨x.a - y.a, x.b - y.b, x.c - y.c, x.d - y.d⟩ = false) :
    Calls Tryd.prog 25 #[.agg #[.int .i64 x.a, .int .i64 x.b, .int .i64 x.c, .int .i64 x.d], .agg #[.int .i64 y.a, .int .i64 y.b, .int .i64 y.c, .int .i64 y.d]] w fun e w' => e = .returned (.tuple #[.agg #[.int .i64 ((subR x y).1).a, .int .i64 ((subR x y).1).b, .int .i64 ((subR x y).1).c, .int .i64 ((subR x y).1).d], .int .i64 ((subR x y).2 : Nat)]) ∧ Below w.heap.size w w' := by
  rw [sub_yes hx hy, show checkR _ = _ from if_neg (by rw [hz]; simp)]
  have gx := (good_iff x).1 hx
  have gy := (good_iff y).1 hy
  obtain ⟨a, b, c, d⟩ := x
  obtain ⟨a', b', c', d'⟩ := y
  simp only at gx gy
  obtain ⟨⟨g0, g0'⟩, ⟨g1, g1'⟩, ⟨g2, g2'⟩, ⟨g3, g3'⟩⟩ := gx
  obtain ⟨⟨k0, k0'⟩, ⟨k1, k1'⟩, ⟨k2, k2'⟩, ⟨k3, k3'⟩⟩ := gy
  simp only at hz
  go_enter Tryd.func25, Tryd.ntmps25
  go_wp2_with fail
  refine (rgood_x ⟨a, b, c, d⟩ _).mono ?_
  rintro e w1 ⟨rfl, rfl⟩
  go_wp2_with fail
  refine (rgood_x ⟨a', b', c', d'⟩ _).mono ?_
  rintro e w2 ⟨rfl, rfl⟩
  go_wp2_with fail
  refine wp_loop_rounds 5 ?_
  repeat any_goals (rw [rounds_succ]; go_wp2_with fail; try (go_region; all_goals go_wp2_with fail))
  refine (rgood_x ⟨a - a', b - b', c - c', d - d'⟩ _).mono ?_
  rintro e w3 ⟨rfl, rfl⟩
  go_wp2_with fail
  exact bodyPost_ret (v := .tuple #[.agg #[.int .i64 0, .int .i64 0, .int .i64 0, .int .i64 0], .int .i64 4]) (by simp [results, Tryd.results25, go_sem]) rfl ⟨rfl, by (repeat' (first | (with_reducible exact Below.refl _ _) | (with_reducible refine below_drewN ?_ _) | (with_reducible refine Below.drew ?_) | (with_reducible refine Below.alloc ?_ ?_ _) | (with_reducible refine Below.setCell ?_ ?_ _) | (with_reducible refine Below.trans ?_ (Below.mono (by with_reducible assumption) ?_)) | omega | (simp only [World.size_alloc] at *; omega) | (with_reducible refine Below.size (B := 0) ?_)))⟩

theorem rsub_c (x y : V4) (w : World) :
    Calls Tryd.prog 25 #[.agg #[.int .i64 x.a, .int .i64 x.b, .int .i64 x.c, .int .i64 x.d], .agg #[.int .i64 y.a, .int .i64 y.b, .int .i64 y.c, .int .i64 y.d]] w fun e w' => e = .returned (.tuple #[.agg #[.int .i64 ((subR x y).1).a, .int .i64 ((subR x y).1).b, .int .i64 ((subR x y).1).c, .int .i64 ((subR x y).1).d], .int .i64 ((subR x y).2 : Nat)]) ∧ Below w.heap.size w w' := by
  cases hx : goodV x
  · exact rsub_bad1 x y w hx
  · cases hy : goodV y
    · exact rsub_bad2 x y w hx hy
    · cases hz : goodV ⟨x.a - y.a, x.b - y.b, x.c - y.c, x.d - y.d⟩
      · exact rsub_over x y w hx hy hz
      · exact rsub_yes x y w hx hy hz

end Go.Proofs.YtejaljcgcmdlgaaDoor
