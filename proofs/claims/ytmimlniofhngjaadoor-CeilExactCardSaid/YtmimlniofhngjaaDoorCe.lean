/- Contracts of the package ceil: the ceiling, what is above it, what is left below it. Conditions: the sentinels lie as the text lays them. -/
import Derived.Test.YtmimlniofhngjaaDoorCeM
import Derived.Test.YtmimlniofhngjaaDoorVbs
namespace Go.Proofs.YtmimlniofhngjaaDoor
open Go Go.RowKit

set_option maxRecDepth 100000 in
set_option maxHeartbeats 800000 in
theorem top_good (s : Nat → Addr) (x : V4) (n : Int) (w : World) (hx : goodV x = true) (hn : ratB n = true) :
    Calls Tryd.prog 11 #[.agg #[.int .i64 x.a, .int .i64 x.b, .int .i64 x.c, .int .i64 x.d], .int .i64 n] w fun e w' => e = .returned (.tuple #[.agg #[.int .i64 ((topR x n).1).a, .int .i64 ((topR x n).1).b, .int .i64 ((topR x n).1).c, .int .i64 ((topR x n).1).d], errV s (topR x n).2]) ∧ Below w.heap.size w w' := by
  rw [show topR x n = (topV x n, 0) by simp [topR, hx, hn]]
  obtain ⟨hn0, hn1⟩ := ratB_iff.1 hn
  have gx := (good_iff x).1 hx
  obtain ⟨a, b, c, d⟩ := x
  simp only at gx
  obtain ⟨⟨m0, m0'⟩, ⟨m1, m1'⟩, ⟨m2, m2'⟩, ⟨m3, m3'⟩⟩ := And.intro (mul_bd gx.1 ⟨by omega, hn1⟩) (And.intro (mul_bd gx.2.1 ⟨by omega, hn1⟩) (And.intro (mul_bd gx.2.2.1 ⟨by omega, hn1⟩) (mul_bd gx.2.2.2 ⟨by omega, hn1⟩)))
  clear gx
  have i0 := ix0
  have i1 := ix1
  have i2 := ix2
  have i3 := ix3
  clear hn
  have q0 : ∀ (ts : Array TypeId) (t : TypeId) (W : World), (Builtin.min_ ts t #[.int .i64 (a * n), .int .i64 1099511627776]).run Tryd.prog W = .ok (.int .i64 (capT (a * n))) W := fun _ _ _ => run_min_int2 _ _ _ _ _ _ _
  have q1 : ∀ (ts : Array TypeId) (t : TypeId) (W : World), (Builtin.min_ ts t #[.int .i64 (b * n), .int .i64 1099511627776]).run Tryd.prog W = .ok (.int .i64 (capT (b * n))) W := fun _ _ _ => run_min_int2 _ _ _ _ _ _ _
  have q2 : ∀ (ts : Array TypeId) (t : TypeId) (W : World), (Builtin.min_ ts t #[.int .i64 (c * n), .int .i64 1099511627776]).run Tryd.prog W = .ok (.int .i64 (capT (c * n))) W := fun _ _ _ => run_min_int2 _ _ _ _ _ _ _
  have q3 : ∀ (ts : Array TypeId) (t : TypeId) (W : World), (Builtin.min_ ts t #[.int .i64 (d * n), .int .i64 1099511627776]).run Tryd.prog W = .ok (.int .i64 (capT (d * n))) W := fun _ _ _ => run_min_int2 _ _ _ _ _ _ _
  go_enter Tryd.func11, Tryd.ntmps11
  go_wp2_with fail
  refine (good_x ⟨a, b, c, d⟩ _).mono ?_
  rintro e w1 ⟨rfl, rfl⟩
  go_wp2_with fail
  refine wp_loop_rounds 5 ?_
  repeat any_goals (rw [rounds_succ]; go_wp2_with fail)
  exact bodyPost_ret (v := .tuple #[.agg #[.int .i64 ((topV ⟨a, b, c, d⟩ n)).a, .int .i64 ((topV ⟨a, b, c, d⟩ n)).b, .int .i64 ((topV ⟨a, b, c, d⟩ n)).c, .int .i64 ((topV ⟨a, b, c, d⟩ n)).d], .nilIface]) (by simp [results, Tryd.results11, go_sem, topV]) rfl ⟨rfl, by (repeat' (first | (with_reducible exact Below.refl _ _) | (with_reducible refine below_drewN ?_ _) | (with_reducible refine Below.drew ?_) | (with_reducible refine Below.alloc ?_ ?_ _) | (with_reducible refine Below.setCell ?_ ?_ _) | (with_reducible refine Below.trans ?_ (Below.mono (by with_reducible assumption) ?_)) | omega | (simp only [World.size_alloc] at *; omega) | (with_reducible refine Below.size (B := 0) ?_)))⟩

set_option maxRecDepth 100000 in
set_option maxHeartbeats 800000 in
theorem top_bad1 (s : Nat → Addr) (x : V4) (n : Int) (w : World) (hs : Sent s w) (hx : goodV x = false) :
    Calls Tryd.prog 11 #[.agg #[.int .i64 x.a, .int .i64 x.b, .int .i64 x.c, .int .i64 x.d], .int .i64 n] w fun e w' => e = .returned (.tuple #[.agg #[.int .i64 ((topR x n).1).a, .int .i64 ((topR x n).1).b, .int .i64 ((topR x n).1).c, .int .i64 ((topR x n).1).d], errV s (topR x n).2]) ∧ Below w.heap.size w w' := by
  rw [show topR x n = (⟨0, 0, 0, 0⟩, 1) by simp [topR, hx]]
  have hg := hs.cell 0 (by omega)
  simp only [gnum, List.getD_cons_zero] at hg
  have hgl : 1 < w.heap.size := lt_of_cell hg
  try (have hgl0 : 0 < w.heap.size := by omega)
  try (have hgl1 : 1 < w.heap.size := by omega)
  obtain ⟨a, b, c, d⟩ := x
  clear hs
  go_enter Tryd.func11, Tryd.ntmps11
  go_wp2_with fail
  refine (good_x ⟨a, b, c, d⟩ _).mono ?_
  rintro e w1 ⟨rfl, rfl⟩
  go_wp2_with fail
  go_region
  all_goals go_wp2_with fail
  all_goals exact bodyPost_ret (v := .tuple #[.agg #[.int .i64 0, .int .i64 0, .int .i64 0, .int .i64 0], .iface 83 (.pointer (some (s 0)))]) (by simp [results, Tryd.results11, go_sem]) rfl ⟨rfl, by (repeat' (first | (with_reducible exact Below.refl _ _) | (with_reducible refine below_drewN ?_ _) | (with_reducible refine Below.drew ?_) | (with_reducible refine Below.alloc ?_ ?_ _) | (with_reducible refine Below.setCell ?_ ?_ _) | (with_reducible refine Below.trans ?_ (Below.mono (by with_reducible assumption) ?_)) | omega | (simp only [World.size_alloc] at *; omega) | (with_reducible refine Below.size (B := 0) ?_)))⟩

set_option maxRecDepth 100000 in
set_option maxHeartbeats 800000 in
theorem top_bad2 (s : Nat → Addr) (x : V4) (n : Int) (w : World) (hs : Sent s w) (hx : goodV x = true) (hn : n < 1) :
    Calls Tryd.prog 11 #[.agg #[.int .i64 x.a, .int .i64 x.b, .int .i64 x.c, .int .i64 x.d], .int .i64 n] w fun e w' => e = .returned (.tuple #[.agg #[.int .i64 ((topR x n).1).a, .int .i64 ((topR x n).1).b, .int .i64 ((topR x n).1).c, .int .i64 ((topR x n).1).d], errV s (topR x n).2]) ∧ Below w.heap.size w w' := by
  rw [show topR x n = (⟨0, 0, 0, 0⟩, 1) by simp [topR, ratB_not.2 (.inl hn)]]
  have hg := hs.cell 0 (by omega)
  simp only [gnum, List.getD_cons_zero] at hg
  have hgl : 1 < w.heap.size := lt_of_cell hg
  try (have hgl0 : 0 < w.heap.size := by omega)
  try (have hgl1 : 1 < w.heap.size := by omega)
  obtain ⟨a, b, c, d⟩ := x
  clear hs
  go_enter Tryd.func11, Tryd.ntmps11
  go_wp2_with fail
  refine (good_x ⟨a, b, c, d⟩ _).mono ?_
  rintro e w1 ⟨rfl, rfl⟩
  go_wp2_with fail
  go_region
  all_goals go_wp2_with fail
  all_goals exact bodyPost_ret (v := .tuple #[.agg #[.int .i64 0, .int .i64 0, .int .i64 0, .int .i64 0], .iface 83 (.pointer (some (s 0)))]) (by simp [results, Tryd.results11, go_sem]) rfl ⟨rfl, by (repeat' (first | (with_reducible exact Below.refl _ _) | (with_reducible refine below_drewN ?_ _) | (with_reducible refine Below.drew ?_) | (with_reducible refine Below.alloc ?_ ?_ _) | (with_reducible refine Below.setCell ?_ ?_ _) | (with_reducible refine Below.trans ?_ (Below.mono (by with_reducible assumption) ?_)) | omega | (simp only [World.size_alloc] at *; omega) | (with_reducible refine Below.size (B := 0) ?_)))⟩

set_option maxRecDepth 100000 in
set_option maxHeartbeats 800000 in
theorem top_bad3 (s : Nat → Addr) (x : V4) (n : Int) (w : World) (hs : Sent s w) (hx : goodV x = true) (hn0 : 1 ≤ n) (hn : 16 < n) :
    Calls Tryd.prog 11 #[.agg #[.int .i64 x.a, .int .i64 x.b, .int .i64 x.c, .int .i64 x.d], .int .i64 n] w fun e w' => e = .returned (.tuple #[.agg #[.int .i64 ((topR x n).1).a, .int .i64 ((topR x n).1).b, .int .i64 ((topR x n).1).c, .int .i64 ((topR x n).1).d], errV s (topR x n).2]) ∧ Below w.heap.size w w' := by
  rw [show topR x n = (⟨0, 0, 0, 0⟩, 1) by simp [topR, ratB_not.2 (.inr hn)]]
  have hg := hs.cell 0 (by omega)
  simp only [gnum, List.getD_cons_zero] at hg
  have hgl : 1 < w.heap.size := lt_of_cell hg
  try (have hgl0 : 0 < w.heap.size := by omega)
  try (have hgl1 : 1 < w.heap.size := by omega)
  obtain ⟨a, b, c, d⟩ := x
  clear hs
  go_enter Tryd.func11, Tryd.ntmps11
  go_wp2_with fail
  refine (good_x ⟨a, b, c, d⟩ _).mono ?_
  rintro e w1 ⟨rfl, rfl⟩
  go_wp2_with fail
  go_region
  all_goals go_wp2_with fail
  all_goals exact bodyPost_ret (v := .tuple #[.agg #[.int .i64 0, .int .i64 0, .int .i64 0, .int .i64 0], .iface 83 (.pointer (some (s 0)))]) (by simp [results, Tryd.results11, go_sem]) rfl ⟨rfl, by (repeat' (first | (with_reducible exact Below.refl _ _) | (with_reducible refine below_drewN ?_ _) | (with_reducible refine Below.drew ?_) | (with_reducible refine Below.alloc ?_ ?_ _) | (with_reducible refine Below.setCell ?_ ?_ _) | (with_reducible refine Below.trans ?_ (Below.mono (by with_reducible assumption) ?_)) | omega | (simp only [World.size_alloc] at *; omega) | (with_reducible refine Below.size (B := 0) ?_)))⟩

theorem top_c (s : Nat → Addr) (x : V4) (n : Int) (w : World) (hs : Sent s w) :
    Calls Tryd.prog 11 #[.agg #[.int .i64 x.a, .int .i64 x.b, .int .i64 x.c, .int .i64 x.d], .int .i64 n] w fun e w' => e = .returned (.tuple #[.agg #[.int .i64 ((topR x n).1).a, .int .i64 ((topR x n).1).b, .int .i64 ((topR x n).1).c, .int .i64 ((topR x n).1).d], errV s (topR x n).2]) ∧ Below w.heap.size w w' := by
  cases hx : goodV x
  · exact top_bad1 s x n w hs hx
  · cases hn : ratB n
    · by_cases h : n < 1
      · exact top_bad2 s x n w hs hx h
      · exact top_bad3 s x n w hs hx (by omega) ((ratB_not.1 hn).resolve_left h)
    · exact top_good s x n w hx hn

set_option maxRecDepth 100000 in
set_option maxHeartbeats 800000 in
theorem beside_bad (s : Nat → Addr) (x c : V4) (n : Int) (w : World) (hs : Sent s w) (hx : goodV x = false) :
    Calls Tryd.prog 27 #[.agg #[.int .i64 x.a, .int .i64 x.b, .int .i64 x.c, .int .i64 x.d], .agg #[.int .i64 c.a, .int .i64 c.b, .int .i64 c.c, .int .i64 c.d], .int .i64 n] w fun e w' => e = .returned (.tuple #[.agg #[.int .i64 ((besideR x c n).1).a, .int .i64 ((besideR x c n).1).b, .int .i64 ((besideR x c n).1).c, .int .i64 ((besideR x c n).1).d], errV s (besideR x c n).2]) ∧ Below w.heap.size w w' := by
  rw [show besideR x c n = (⟨0, 0, 0, 0⟩, 1) by simp [besideR, hx]]
  have hg := hs.cell 0 (by omega)
  simp only [gnum, List.getD_cons_zero] at hg
  have hgl : 1 < w.heap.size := lt_of_cell hg
  try (have hgl0 : 0 < w.heap.size := by omega)
  try (have hgl1 : 1 < w.heap.size := by omega)
  obtain ⟨a, b, c, d⟩ := x
  clear hs
  go_enter Tryd.func27, Tryd.ntmps27
  go_wp2_with fail
  refine (good_x ⟨a, b, c, d⟩ _).mono ?_
  rintro e w1 ⟨rfl, rfl⟩
  go_wp2_with fail
  go_region
  all_goals go_wp2_with fail
  all_goals exact bodyPost_ret (v := .tuple #[.agg #[.int .i64 0, .int .i64 0, .int .i64 0, .int .i64 0], .iface 83 (.pointer (some (s 0)))]) (by simp [results, Tryd.results27, go_sem]) rfl ⟨rfl, by (repeat' (first | (with_reducible exact Below.refl _ _) | (with_reducible refine below_drewN ?_ _) | (with_reducible refine Below.drew ?_) | (with_reducible refine Below.alloc ?_ ?_ _) | (with_reducible refine Below.setCell ?_ ?_ _) | (with_reducible refine Below.trans ?_ (Below.mono (by with_reducible assumption) ?_)) | omega | (simp only [World.size_alloc] at *; omega) | (with_reducible refine Below.size (B := 0) ?_)))⟩

set_option maxRecDepth 100000 in
set_option maxHeartbeats 800000 in
theorem beside_good (s : Nat → Addr) (x c : V4) (n : Int) (w : World) (hs : Sent s w) (hx : goodV x = true) :
    Calls Tryd.prog 27 #[.agg #[.int .i64 x.a, .int .i64 x.b, .int .i64 x.c, .int .i64 x.d], .agg #[.int .i64 c.a, .int .i64 c.b, .int .i64 c.c, .int .i64 c.d], .int .i64 n] w fun e w' => e = .returned (.tuple #[.agg #[.int .i64 ((besideR x c n).1).a, .int .i64 ((besideR x c n).1).b, .int .i64 ((besideR x c n).1).c, .int .i64 ((besideR x c n).1).d], errV s (besideR x c n).2]) ∧ Below w.heap.size w w' := by
  rw [show besideR x c n = topR c n by simp [besideR, hx]]
  go_enter Tryd.func27, Tryd.ntmps27
  go_wp2_with fail
  refine (good_x x _).mono ?_
  rintro e w1 ⟨rfl, rfl⟩
  go_wp2_with fail
  refine (top_c s c n _ (hs.below (B := w.heap.size) (by (repeat' (first | (with_reducible exact Below.refl _ _) | (with_reducible refine below_drewN ?_ _) | (with_reducible refine Below.drew ?_) | (with_reducible refine Below.alloc ?_ ?_ _) | (with_reducible refine Below.setCell ?_ ?_ _) | (with_reducible refine Below.trans ?_ (Below.mono (by with_reducible assumption) ?_)) | omega | (simp only [World.size_alloc] at *; omega) | (with_reducible refine Below.size (B := 0) ?_)))) (Nat.le_refl _))).mono ?_
  rintro e w2 ⟨rfl, hb2⟩
  obtain ⟨hc, hf⟩ := bcell hb2
  simp only [World.size_alloc] at hc hf
  go_wp2_with fail
  exact bodyPost_ret (v := .tuple #[.agg #[.int .i64 ((topR c n).1).a, .int .i64 ((topR c n).1).b, .int .i64 ((topR c n).1).c, .int .i64 ((topR c n).1).d], errV s (topR c n).2]) (by simp [results, Tryd.results27, go_sem, hc]) rfl ⟨rfl, by (repeat' (first | (with_reducible exact Below.refl _ _) | (with_reducible refine below_drewN ?_ _) | (with_reducible refine Below.drew ?_) | (with_reducible refine Below.alloc ?_ ?_ _) | (with_reducible refine Below.setCell ?_ ?_ _) | (with_reducible refine Below.trans ?_ (Below.mono (by with_reducible assumption) ?_)) | omega | (simp only [World.size_alloc] at *; omega) | (with_reducible refine Below.size (B := 0) ?_)))⟩

theorem beside_c (s : Nat → Addr) (x c : V4) (n : Int) (w : World) (hs : Sent s w) :
    Calls Tryd.prog 27 #[.agg #[.int .i64 x.a, .int .i64 x.b, .int .i64 x.c, .int .i64 x.d], .agg #[.int .i64 c.a, .int .i64 c.b, .int .i64 c.c, .int .i64 c.d], .int .i64 n] w fun e w' => e = .returned (.tuple #[.agg #[.int .i64 ((besideR x c n).1).a, .int .i64 ((besideR x c n).1).b, .int .i64 ((besideR x c n).1).c, .int .i64 ((besideR x c n).1).d], errV s (besideR x c n).2]) ∧ Below w.heap.size w w' := by
  cases hx : goodV x
  · exact beside_bad s x c n w hs hx
  · exact beside_good s x c n w hs hx

set_option maxRecDepth 100000 in
set_option maxHeartbeats 800000 in
theorem above_c (x y : V4) (w : World) (hx : goodV x = true) (hy : goodV y = true) :
    Calls Tryd.prog 28 #[.agg #[.int .i64 x.a, .int .i64 x.b, .int .i64 x.c, .int .i64 x.d], .agg #[.int .i64 y.a, .int .i64 y.b, .int .i64 y.c, .int .i64 y.d]] w fun e w' => e = .returned (.agg #[.int .i64 ((overV x y)).a, .int .i64 ((overV x y)).b, .int .i64 ((overV x y)).c, .int .i64 ((overV x y)).d]) ∧ Below w.heap.size w w' := by
  have gx := (good_iff x).1 hx
  have gy := (good_iff y).1 hy
  obtain ⟨a, b, c, d⟩ := x
  obtain ⟨a', b', c', d'⟩ := y
  simp only at gx gy
  obtain ⟨⟨g0, g0'⟩, ⟨g1, g1'⟩, ⟨g2, g2'⟩, ⟨g3, g3'⟩⟩ := gx
  obtain ⟨⟨k0, k0'⟩, ⟨k1, k1'⟩, ⟨k2, k2'⟩, ⟨k3, k3'⟩⟩ := gy
  have i0 := ix0
  have i1 := ix1
  have i2 := ix2
  have i3 := ix3
  have q0 : ∀ (ts : Array TypeId) (t : TypeId) (W : World), (Builtin.max_ ts t #[.int .i64 (a - a'), .int .i64 0]).run Tryd.prog W = .ok (.int .i64 (atLeast0 (a - a'))) W := fun _ _ _ => run_max_int2 _ _ _ _ _ _ _
  have q1 : ∀ (ts : Array TypeId) (t : TypeId) (W : World), (Builtin.max_ ts t #[.int .i64 (b - b'), .int .i64 0]).run Tryd.prog W = .ok (.int .i64 (atLeast0 (b - b'))) W := fun _ _ _ => run_max_int2 _ _ _ _ _ _ _
  have q2 : ∀ (ts : Array TypeId) (t : TypeId) (W : World), (Builtin.max_ ts t #[.int .i64 (c - c'), .int .i64 0]).run Tryd.prog W = .ok (.int .i64 (atLeast0 (c - c'))) W := fun _ _ _ => run_max_int2 _ _ _ _ _ _ _
  have q3 : ∀ (ts : Array TypeId) (t : TypeId) (W : World), (Builtin.max_ ts t #[.int .i64 (d - d'), .int .i64 0]).run Tryd.prog W = .ok (.int .i64 (atLeast0 (d - d'))) W := fun _ _ _ => run_max_int2 _ _ _ _ _ _ _
  clear hx hy
  go_enter Tryd.func28, Tryd.ntmps28
  go_wp2_with fail
  refine wp_loop_rounds 5 ?_
  repeat any_goals (rw [rounds_succ]; go_wp2_with fail)
  exact bodyPost_ret (v := .agg #[.int .i64 ((overV ⟨a, b, c, d⟩ ⟨a', b', c', d'⟩)).a, .int .i64 ((overV ⟨a, b, c, d⟩ ⟨a', b', c', d'⟩)).b, .int .i64 ((overV ⟨a, b, c, d⟩ ⟨a', b', c', d'⟩)).c, .int .i64 ((overV ⟨a, b, c, d⟩ ⟨a', b', c', d'⟩)).d]) (by simp [results, Tryd.results28, go_sem, overV]) rfl ⟨rfl, by (repeat' (first | (with_reducible exact Below.refl _ _) | (with_reducible refine below_drewN ?_ _) | (with_reducible refine Below.drew ?_) | (with_reducible refine Below.alloc ?_ ?_ _) | (with_reducible refine Below.setCell ?_ ?_ _) | (with_reducible refine Below.trans ?_ (Below.mono (by with_reducible assumption) ?_)) | omega | (simp only [World.size_alloc] at *; omega) | (with_reducible refine Below.size (B := 0) ?_)))⟩

set_option maxRecDepth 100000 in
set_option maxHeartbeats 800000 in
theorem exc_good (s : Nat → Addr) (x c : V4) (n : Int) (w : World) (hs : Sent s w) (hx : goodV x = true) (hc : goodV c = true) (hn : ratB n = true) :
    Calls Tryd.prog 12 #[.agg #[.int .i64 x.a, .int .i64 x.b, .int .i64 x.c, .int .i64 x.d], .agg #[.int .i64 c.a, .int .i64 c.b, .int .i64 c.c, .int .i64 c.d], .int .i64 n] w fun e w' => e = .returned (.tuple #[.agg #[.int .i64 ((excR x c n).1).a, .int .i64 ((excR x c n).1).b, .int .i64 ((excR x c n).1).c, .int .i64 ((excR x c n).1).d], errV s (excR x c n).2]) ∧ Below w.heap.size w w' := by
  rw [show excR x c n = ((overV x (topV c n)), 0) by simp [excR, hx, hc, hn]]
  have hR : besideR x c n = (topV c n, 0) := by simp [besideR, topR, hx, hc, hn]
  have HB := Lib.hid (fun W h => beside_c s x c n W h)
  rw [hR] at HB
  have HA := Lib.hid (fun W => above_c x (topV c n) W hx (topV_good hc hn))
  generalize topV c n = T at HB HA ⊢
  rw [show errV s ((T, 0) : V4 × Nat).2 = .nilIface from rfl] at HB
  clear hR hx hc hn
  go_enter Tryd.func12, Tryd.ntmps12
  go_wp2_with fail
  refine (HB.out _ (hs.below (B := w.heap.size) (by (repeat' (first | (with_reducible exact Below.refl _ _) | (with_reducible refine below_drewN ?_ _) | (with_reducible refine Below.drew ?_) | (with_reducible refine Below.alloc ?_ ?_ _) | (with_reducible refine Below.setCell ?_ ?_ _) | (with_reducible refine Below.trans ?_ (Below.mono (by with_reducible assumption) ?_)) | omega | (simp only [World.size_alloc] at *; omega) | (with_reducible refine Below.size (B := 0) ?_)))) (Nat.le_refl _))).mono ?_
  rintro e w2 ⟨rfl, hb2⟩
  have Vx : Vb w2 w.heap.size x := (((Vb.new w x).alloc _).alloc _).step0 hb2
  have Vz : Vb w2 (w.heap.size + 1 + 1) ⟨0, 0, 0, 0⟩ := (Vb.new_at (by simp) ⟨0, 0, 0, 0⟩).step0 hb2
  obtain ⟨a0, a1, a2, a3, af, al⟩ := Vx.facts
  clear Vx
  go_wp2_with fail
  refine (HA.out _).mono ?_
  rintro e w3 ⟨rfl, hb3⟩
  clear a0 a1 a2 a3 af al
  replace Vz := Vz.step hb3
  obtain ⟨c0, c1, c2, c3, cf, cl⟩ := Vz.facts
  clear Vz
  go_wp2_with fail
  exact bodyPost_ret (v := .tuple #[.agg #[.int .i64 (((overV x T))).a, .int .i64 (((overV x T))).b, .int .i64 (((overV x T))).c, .int .i64 (((overV x T))).d], .nilIface]) (by simp [results, Tryd.results12, go_sem, c0, c1, c2, c3]) rfl ⟨rfl, by (repeat' (first | (with_reducible exact Below.refl _ _) | (with_reducible refine below_drewN ?_ _) | (with_reducible refine Below.drew ?_) | (with_reducible refine Below.alloc ?_ ?_ _) | (with_reducible refine Below.setCell ?_ ?_ _) | (with_reducible refine Below.trans ?_ (Below.mono (by with_reducible assumption) ?_)) | omega | (simp only [World.size_alloc] at *; omega) | (with_reducible refine Below.size (B := 0) ?_)))⟩

set_option maxRecDepth 100000 in
set_option maxHeartbeats 800000 in
theorem room_good (s : Nat → Addr) (x c : V4) (n : Int) (w : World) (hs : Sent s w) (hx : goodV x = true) (hc : goodV c = true) (hn : ratB n = true) :
    Calls Tryd.prog 13 #[.agg #[.int .i64 x.a, .int .i64 x.b, .int .i64 x.c, .int .i64 x.d], .agg #[.int .i64 c.a, .int .i64 c.b, .int .i64 c.c, .int .i64 c.d], .int .i64 n] w fun e w' => e = .returned (.tuple #[.agg #[.int .i64 ((roomR x c n).1).a, .int .i64 ((roomR x c n).1).b, .int .i64 ((roomR x c n).1).c, .int .i64 ((roomR x c n).1).d], errV s (roomR x c n).2]) ∧ Below w.heap.size w w' := by
  rw [show roomR x c n = ((overV (topV c n) x), 0) by simp [roomR, hx, hc, hn]]
  have hR : besideR x c n = (topV c n, 0) := by simp [besideR, topR, hx, hc, hn]
  have HB := Lib.hid (fun W h => beside_c s x c n W h)
  rw [hR] at HB
  have HA := Lib.hid (fun W => above_c (topV c n) x W (topV_good hc hn) hx)
  generalize topV c n = T at HB HA ⊢
  rw [show errV s ((T, 0) : V4 × Nat).2 = .nilIface from rfl] at HB
  clear hR hx hc hn
  go_enter Tryd.func13, Tryd.ntmps13
  go_wp2_with fail
  refine (HB.out _ (hs.below (B := w.heap.size) (by (repeat' (first | (with_reducible exact Below.refl _ _) | (with_reducible refine below_drewN ?_ _) | (with_reducible refine Below.drew ?_) | (with_reducible refine Below.alloc ?_ ?_ _) | (with_reducible refine Below.setCell ?_ ?_ _) | (with_reducible refine Below.trans ?_ (Below.mono (by with_reducible assumption) ?_)) | omega | (simp only [World.size_alloc] at *; omega) | (with_reducible refine Below.size (B := 0) ?_)))) (Nat.le_refl _))).mono ?_
  rintro e w2 ⟨rfl, hb2⟩
  have Vx : Vb w2 w.heap.size x := (((Vb.new w x).alloc _).alloc _).step0 hb2
  have Vz : Vb w2 (w.heap.size + 1 + 1) ⟨0, 0, 0, 0⟩ := (Vb.new_at (by simp) ⟨0, 0, 0, 0⟩).step0 hb2
  obtain ⟨a0, a1, a2, a3, af, al⟩ := Vx.facts
  clear Vx
  go_wp2_with fail
  refine (HA.out _).mono ?_
  rintro e w3 ⟨rfl, hb3⟩
  clear a0 a1 a2 a3 af al
  replace Vz := Vz.step hb3
  obtain ⟨c0, c1, c2, c3, cf, cl⟩ := Vz.facts
  clear Vz
  go_wp2_with fail
  exact bodyPost_ret (v := .tuple #[.agg #[.int .i64 (((overV T x))).a, .int .i64 (((overV T x))).b, .int .i64 (((overV T x))).c, .int .i64 (((overV T x))).d], .nilIface]) (by simp [results, Tryd.results13, go_sem, c0, c1, c2, c3]) rfl ⟨rfl, by (repeat' (first | (with_reducible exact Below.refl _ _) | (with_reducible refine below_drewN ?_ _) | (with_reducible refine Below.drew ?_) | (with_reducible refine Below.alloc ?_ ?_ _) | (with_reducible refine Below.setCell ?_ ?_ _) | (with_reducible refine Below.trans ?_ (Below.mono (by with_reducible assumption) ?_)) | omega | (simp only [World.size_alloc] at *; omega) | (with_reducible refine Below.size (B := 0) ?_)))⟩
end Go.Proofs.YtmimlniofhngjaaDoor
