/- Contracts of Add, Sub and Scale of the package vec: each returns the plain arithmetic's result and error. Condition: the sentinels lie as the text lays them. -/
import Derived.Test.YtbfbhlpibclccaaDoorVec
namespace Go.Proofs.YtbfbhlpibclccaaDoor
open Go Go.RowKit

theorem checked_c (s : Nat → Addr) (x : V4) (w : World) (hs : Sent s w) :
    Calls Tryd.prog 65 #[.agg #[.int .i64 x.a, .int .i64 x.b, .int .i64 x.c, .int .i64 x.d]] w fun e w' => e = .returned (.tuple #[.agg #[.int .i64 ((checkR x).1).a, .int .i64 ((checkR x).1).b, .int .i64 ((checkR x).1).c, .int .i64 ((checkR x).1).d], errV s (checkR x).2]) ∧ Below w.heap.size w w' := by
  cases hx : goodV x
  · exact checked_no s x w hs hx
  · exact checked_yes s x w hx

set_option maxRecDepth 100000 in
set_option maxHeartbeats 800000 in
theorem scale_good (s : Nat → Addr) (x : V4) (n : Int) (w : World) (hs : Sent s w) (hx : goodV x = true) (hn0 : 0 ≤ n) (hn1 : n ≤ 16) :
    Calls Tryd.prog 45 #[.agg #[.int .i64 x.a, .int .i64 x.b, .int .i64 x.c, .int .i64 x.d], .int .i64 n] w fun e w' => e = .returned (.tuple #[.agg #[.int .i64 ((scaleR x n).1).a, .int .i64 ((scaleR x n).1).b, .int .i64 ((scaleR x n).1).c, .int .i64 ((scaleR x n).1).d], errV s (scaleR x n).2]) ∧ Below w.heap.size w w' := by
  rw [scale_yes hx ⟨hn0, hn1⟩]
  have gx := (good_iff x).1 hx
  obtain ⟨a, b, c, d⟩ := x
  simp only at gx
  obtain ⟨⟨m0, m0'⟩, ⟨m1, m1'⟩, ⟨m2, m2'⟩, ⟨m3, m3'⟩⟩ := And.intro (mul_bd gx.1 ⟨hn0, hn1⟩) (And.intro (mul_bd gx.2.1 ⟨hn0, hn1⟩) (And.intro (mul_bd gx.2.2.1 ⟨hn0, hn1⟩) (mul_bd gx.2.2.2 ⟨hn0, hn1⟩)))
  obtain ⟨⟨g0, g0'⟩, ⟨g1, g1'⟩, ⟨g2, g2'⟩, ⟨g3, g3'⟩⟩ := gx
  go_enter Tryd.func45, Tryd.ntmps45
  go_wp2_with fail
  refine (good_x ⟨a, b, c, d⟩ _).mono ?_
  rintro e w1 ⟨rfl, rfl⟩
  go_wp2_with fail
  refine wp_loop_rounds 5 ?_
  repeat any_goals (rw [rounds_succ]; go_wp2_with fail)
  refine (checked_c s ⟨a * n, b * n, c * n, d * n⟩ _ (hs.below (B := w.heap.size) (by (repeat' (first | (with_reducible exact Below.refl _ _) | (with_reducible refine below_drewN ?_ _) | (with_reducible refine Below.drew ?_) | (with_reducible refine Below.alloc ?_ ?_ _) | (with_reducible refine Below.setCell ?_ ?_ _) | (with_reducible refine Below.trans ?_ (Below.mono (by with_reducible assumption) ?_)) | omega | (simp only [World.size_alloc] at *; omega) | (with_reducible refine Below.size (B := 0) ?_)))) (Nat.le_refl _))).mono ?_
  rintro e w3 ⟨rfl, hb3⟩
  obtain ⟨hc3, hf3⟩ := bcell hb3
  go_wp2_with fail
  exact bodyPost_ret (v := .tuple #[.agg #[.int .i64 ((checkR ⟨a * n, b * n, c * n, d * n⟩).1).a, .int .i64 ((checkR ⟨a * n, b * n, c * n, d * n⟩).1).b, .int .i64 ((checkR ⟨a * n, b * n, c * n, d * n⟩).1).c, .int .i64 ((checkR ⟨a * n, b * n, c * n, d * n⟩).1).d], errV s (checkR ⟨a * n, b * n, c * n, d * n⟩).2]) (by simp [results, Tryd.results45, go_sem, hc3]) rfl ⟨rfl, by (repeat' (first | (with_reducible exact Below.refl _ _) | (with_reducible refine below_drewN ?_ _) | (with_reducible refine Below.drew ?_) | (with_reducible refine Below.alloc ?_ ?_ _) | (with_reducible refine Below.setCell ?_ ?_ _) | (with_reducible refine Below.trans ?_ (Below.mono (by with_reducible assumption) ?_)) | omega | (simp only [World.size_alloc] at *; omega) | (with_reducible refine Below.size (B := 0) ?_)))⟩

set_option maxRecDepth 100000 in
set_option maxHeartbeats 800000 in
theorem scale_bad1 (s : Nat → Addr) (x : V4) (n : Int) (w : World) (hs : Sent s w) (hx : goodV x = false) :
    Calls Tryd.prog 45 #[.agg #[.int .i64 x.a, .int .i64 x.b, .int .i64 x.c, .int .i64 x.d], .int .i64 n] w fun e w' => e = .returned (.tuple #[.agg #[.int .i64 ((scaleR x n).1).a, .int .i64 ((scaleR x n).1).b, .int .i64 ((scaleR x n).1).c, .int .i64 ((scaleR x n).1).d], errV s (scaleR x n).2]) ∧ Below w.heap.size w w' := by
  rw [scale_no1 hx]
  have hg := hs.cell 0 (by omega)
  simp only [gnum, List.getD_cons_zero] at hg
  have hgl : 1 < w.heap.size := lt_of_cell hg
  try (have hgl0 : 0 < w.heap.size := by omega)
  try (have hgl1 : 1 < w.heap.size := by omega)
  try (have hgl2 : 2 < w.heap.size := by omega)
  try (have hgl3 : 3 < w.heap.size := by omega)
  try (have hgl4 : 4 < w.heap.size := by omega)
  try (have hgl5 : 5 < w.heap.size := by omega)
  try (have hgl6 : 6 < w.heap.size := by omega)
  try (have hgl7 : 7 < w.heap.size := by omega)
  try (have hgl8 : 8 < w.heap.size := by omega)
  try (have hgl9 : 9 < w.heap.size := by omega)
  try (have hgl10 : 10 < w.heap.size := by omega)
  try (have hgl11 : 11 < w.heap.size := by omega)
  try (have hgl12 : 12 < w.heap.size := by omega)
  obtain ⟨a, b, c, d⟩ := x
  clear hs
  go_enter Tryd.func45, Tryd.ntmps45
  go_wp2_with fail
  refine (good_x ⟨a, b, c, d⟩ _).mono ?_
  rintro e w1 ⟨rfl, rfl⟩
  go_wp2_with fail
  go_region
  all_goals go_wp2_with fail
  all_goals exact bodyPost_ret (v := .tuple #[.agg #[.int .i64 0, .int .i64 0, .int .i64 0, .int .i64 0], .iface 201 (.pointer (some (s 0)))]) (by simp [results, Tryd.results45, go_sem]) rfl ⟨rfl, by (repeat' (first | (with_reducible exact Below.refl _ _) | (with_reducible refine below_drewN ?_ _) | (with_reducible refine Below.drew ?_) | (with_reducible refine Below.alloc ?_ ?_ _) | (with_reducible refine Below.setCell ?_ ?_ _) | (with_reducible refine Below.trans ?_ (Below.mono (by with_reducible assumption) ?_)) | omega | (simp only [World.size_alloc] at *; omega) | (with_reducible refine Below.size (B := 0) ?_)))⟩

set_option maxRecDepth 100000 in
set_option maxHeartbeats 800000 in
theorem scale_bad2 (s : Nat → Addr) (x : V4) (n : Int) (w : World) (hs : Sent s w) (hx : goodV x = true) (hn : n < 0 ∨ 16 < n) :
    Calls Tryd.prog 45 #[.agg #[.int .i64 x.a, .int .i64 x.b, .int .i64 x.c, .int .i64 x.d], .int .i64 n] w fun e w' => e = .returned (.tuple #[.agg #[.int .i64 ((scaleR x n).1).a, .int .i64 ((scaleR x n).1).b, .int .i64 ((scaleR x n).1).c, .int .i64 ((scaleR x n).1).d], errV s (scaleR x n).2]) ∧ Below w.heap.size w w' := by
  rw [scale_no2 (by omega)]
  have hg := hs.cell 0 (by omega)
  simp only [gnum, List.getD_cons_zero] at hg
  have hgl : 1 < w.heap.size := lt_of_cell hg
  try (have hgl0 : 0 < w.heap.size := by omega)
  try (have hgl1 : 1 < w.heap.size := by omega)
  try (have hgl2 : 2 < w.heap.size := by omega)
  try (have hgl3 : 3 < w.heap.size := by omega)
  try (have hgl4 : 4 < w.heap.size := by omega)
  try (have hgl5 : 5 < w.heap.size := by omega)
  try (have hgl6 : 6 < w.heap.size := by omega)
  try (have hgl7 : 7 < w.heap.size := by omega)
  try (have hgl8 : 8 < w.heap.size := by omega)
  try (have hgl9 : 9 < w.heap.size := by omega)
  try (have hgl10 : 10 < w.heap.size := by omega)
  try (have hgl11 : 11 < w.heap.size := by omega)
  try (have hgl12 : 12 < w.heap.size := by omega)
  obtain ⟨a, b, c, d⟩ := x
  clear hs
  rcases hn with hn | hn
  · go_enter Tryd.func45, Tryd.ntmps45
    go_wp2_with fail
    refine (good_x ⟨a, b, c, d⟩ _).mono ?_
    rintro e w1 ⟨rfl, rfl⟩
    go_wp2_with fail
    go_region
    all_goals go_wp2_with fail
    all_goals exact bodyPost_ret (v := .tuple #[.agg #[.int .i64 0, .int .i64 0, .int .i64 0, .int .i64 0], .iface 201 (.pointer (some (s 0)))]) (by simp [results, Tryd.results45, go_sem]) rfl ⟨rfl, by (repeat' (first | (with_reducible exact Below.refl _ _) | (with_reducible refine below_drewN ?_ _) | (with_reducible refine Below.drew ?_) | (with_reducible refine Below.alloc ?_ ?_ _) | (with_reducible refine Below.setCell ?_ ?_ _) | (with_reducible refine Below.trans ?_ (Below.mono (by with_reducible assumption) ?_)) | omega | (simp only [World.size_alloc] at *; omega) | (with_reducible refine Below.size (B := 0) ?_)))⟩
  · have hn0 : 0 ≤ n := by omega
    go_enter Tryd.func45, Tryd.ntmps45
    go_wp2_with fail
    refine (good_x ⟨a, b, c, d⟩ _).mono ?_
    rintro e w1 ⟨rfl, rfl⟩
    go_wp2_with fail
    go_region
    all_goals go_wp2_with fail
    all_goals exact bodyPost_ret (v := .tuple #[.agg #[.int .i64 0, .int .i64 0, .int .i64 0, .int .i64 0], .iface 201 (.pointer (some (s 0)))]) (by simp [results, Tryd.results45, go_sem]) rfl ⟨rfl, by (repeat' (first | (with_reducible exact Below.refl _ _) | (with_reducible refine below_drewN ?_ _) | (with_reducible refine Below.drew ?_) | (with_reducible refine Below.alloc ?_ ?_ _) | (with_reducible refine Below.setCell ?_ ?_ _) | (with_reducible refine Below.trans ?_ (Below.mono (by with_reducible assumption) ?_)) | omega | (simp only [World.size_alloc] at *; omega) | (with_reducible refine Below.size (B := 0) ?_)))⟩

theorem scale_c (s : Nat → Addr) (x : V4) (n : Int) (w : World) (hs : Sent s w) :
    Calls Tryd.prog 45 #[.agg #[.int .i64 x.a, .int .i64 x.b, .int .i64 x.c, .int .i64 x.d], .int .i64 n] w fun e w' => e = .returned (.tuple #[.agg #[.int .i64 ((scaleR x n).1).a, .int .i64 ((scaleR x n).1).b, .int .i64 ((scaleR x n).1).c, .int .i64 ((scaleR x n).1).d], errV s (scaleR x n).2]) ∧ Below w.heap.size w w' := by
  cases hx : goodV x
  · exact scale_bad1 s x n w hs hx
  · by_cases hn : 0 ≤ n ∧ n ≤ 16
    · exact scale_good s x n w hs hx hn.1 hn.2
    · exact scale_bad2 s x n w hs hx (by omega)
end Go.Proofs.YtbfbhlpibclccaaDoor
