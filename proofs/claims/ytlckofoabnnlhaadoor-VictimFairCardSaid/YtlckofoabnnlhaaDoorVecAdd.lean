/- Contracts of Add, Sub and Scale of the package vec: each returns the plain arithmetic's result and error. Condition: the sentinels lie as the text lays them. -/
import Derived.Test.YtlckofoabnnlhaaDoorVec
namespace Go.Proofs.YtlckofoabnnlhaaDoor
open Go Go.RowKit

theorem checked_c (s : Nat → Addr) (x : V4) (w : World) (hs : Sent s w) :
    Calls Tryd.prog 40 #[.agg #[.int .i64 x.a, .int .i64 x.b, .int .i64 x.c, .int .i64 x.d]] w fun e w' => e = .returned (.tuple #[.agg #[.int .i64 ((checkR x).1).a, .int .i64 ((checkR x).1).b, .int .i64 ((checkR x).1).c, .int .i64 ((checkR x).1).d], errV s (checkR x).2]) ∧ Below w.heap.size w w' := by
  cases hx : goodV x
  · exact checked_no s x w hs hx
  · exact checked_yes s x w hx

set_option maxRecDepth 100000 in
set_option maxHeartbeats 800000 in
theorem sub_good (s : Nat → Addr) (x y : V4) (w : World) (hs : Sent s w) (hx : goodV x = true) (hy : goodV y = true) :
    Calls Tryd.prog 33 #[.agg #[.int .i64 x.a, .int .i64 x.b, .int .i64 x.c, .int .i64 x.d], .agg #[.int .i64 y.a, .int .i64 y.b, .int .i64 y.c, .int .i64 y.d]] w fun e w' => e = .returned (.tuple #[.agg #[.int .i64 ((subR x y).1).a, .int .i64 ((subR x y).1).b, .int .i64 ((subR x y).1).c, .int .i64 ((subR x y).1).d], errV s (subR x y).2]) ∧ Below w.heap.size w w' := by
  rw [sub_yes hx hy]
  have gx := (good_iff x).1 hx
  have gy := (good_iff y).1 hy
  obtain ⟨a, b, c, d⟩ := x
  obtain ⟨a', b', c', d'⟩ := y
  simp only at gx gy
  obtain ⟨⟨g0, g0'⟩, ⟨g1, g1'⟩, ⟨g2, g2'⟩, ⟨g3, g3'⟩⟩ := gx
  obtain ⟨⟨k0, k0'⟩, ⟨k1, k1'⟩, ⟨k2, k2'⟩, ⟨k3, k3'⟩⟩ := gy
  have i0 := ix0
  have i1 := ix1
  have i2 := ix2
  have i3 := ix3
  go_enter Tryd.func33, Tryd.ntmps33
  go_wp2_with fail
  refine (good_x ⟨a, b, c, d⟩ _).mono ?_
  rintro e w1 ⟨rfl, rfl⟩
  go_wp2_with fail
  refine (good_x ⟨a', b', c', d'⟩ _).mono ?_
  rintro e w2 ⟨rfl, rfl⟩
  go_wp2_with fail
  refine wp_loop_rounds 5 ?_
  repeat any_goals (rw [rounds_succ]; go_wp2_with fail)
  refine (checked_c s ⟨a - a', b - b', c - c', d - d'⟩ _ (hs.below (B := w.heap.size) (by (repeat' (first | (with_reducible exact Below.refl _ _) | (with_reducible refine below_drewN ?_ _) | (with_reducible refine Below.drew ?_) | (with_reducible refine Below.alloc ?_ ?_ _) | (with_reducible refine Below.setCell ?_ ?_ _) | (with_reducible refine Below.trans ?_ (Below.mono (by with_reducible assumption) ?_)) | omega | (simp only [World.size_alloc] at *; omega) | (with_reducible refine Below.size (B := 0) ?_)))) (Nat.le_refl _))).mono ?_
  rintro e w3 ⟨rfl, hb3⟩
  obtain ⟨hc3, hf3⟩ := bcell hb3
  go_wp2_with fail
  exact bodyPost_ret (v := .tuple #[.agg #[.int .i64 ((checkR ⟨a - a', b - b', c - c', d - d'⟩).1).a, .int .i64 ((checkR ⟨a - a', b - b', c - c', d - d'⟩).1).b, .int .i64 ((checkR ⟨a - a', b - b', c - c', d - d'⟩).1).c, .int .i64 ((checkR ⟨a - a', b - b', c - c', d - d'⟩).1).d], errV s (checkR ⟨a - a', b - b', c - c', d - d'⟩).2]) (by simp [results, Tryd.results33, go_sem, hc3]) rfl ⟨rfl, by (repeat' (first | (with_reducible exact Below.refl _ _) | (with_reducible refine below_drewN ?_ _) | (with_reducible refine Below.drew ?_) | (with_reducible refine Below.alloc ?_ ?_ _) | (with_reducible refine Below.setCell ?_ ?_ _) | (with_reducible refine Below.trans ?_ (Below.mono (by with_reducible assumption) ?_)) | omega | (simp only [World.size_alloc] at *; omega) | (with_reducible refine Below.size (B := 0) ?_)))⟩

set_option maxRecDepth 100000 in
set_option maxHeartbeats 800000 in
theorem sub_bad1 (s : Nat → Addr) (x y : V4) (w : World) (hs : Sent s w) (hx : goodV x = false) :
    Calls Tryd.prog 33 #[.agg #[.int .i64 x.a, .int .i64 x.b, .int .i64 x.c, .int .i64 x.d], .agg #[.int .i64 y.a, .int .i64 y.b, .int .i64 y.c, .int .i64 y.d]] w fun e w' => e = .returned (.tuple #[.agg #[.int .i64 ((subR x y).1).a, .int .i64 ((subR x y).1).b, .int .i64 ((subR x y).1).c, .int .i64 ((subR x y).1).d], errV s (subR x y).2]) ∧ Below w.heap.size w w' := by
  rw [sub_no1 hx]
  have hg := hs.cell 0 (by omega)
  simp only [gnum, List.getD_cons_zero] at hg
  have hgl : 0 < w.heap.size := lt_of_cell hg
  try (have hgl0 : 0 < w.heap.size := by omega)
  try (have hgl1 : 1 < w.heap.size := by omega)
  try (have hgl2 : 2 < w.heap.size := by omega)
  try (have hgl3 : 3 < w.heap.size := by omega)
  try (have hgl4 : 4 < w.heap.size := by omega)
  try (have hgl5 : 5 < w.heap.size := by omega)
  try (have hgl6 : 6 < w.heap.size := by omega)
  try (have hgl7 : 7 < w.heap.size := by omega)
  try (have hgl8 : 8 < w.heap.size := by omega)
  try (have hgl9 : 9 < w.heap.size := by omega)
  try (have hgl10 : 10 < w.heap.size := by omega)
  try (have hgl11 : 11 < w.heap.size := by omega)
  try (have hgl12 : 12 < w.heap.size := by omega)
  obtain ⟨a, b, c, d⟩ := x
  obtain ⟨a', b', c', d'⟩ := y
  clear hs
  go_enter Tryd.func33, Tryd.ntmps33
  go_wp2_with fail
  refine (good_x ⟨a, b, c, d⟩ _).mono ?_
  rintro e w1 ⟨rfl, rfl⟩
  go_wp2_with fail
  go_region
  all_goals go_wp2_with fail
  all_goals exact bodyPost_ret (v := .tuple #[.agg #[.int .i64 0, .int .i64 0, .int .i64 0, .int .i64 0], .iface 113 (.pointer (some (s 0)))]) (by simp [results, Tryd.results33, go_sem]) rfl ⟨rfl, by (repeat' (first | (with_reducible exact Below.refl _ _) | (with_reducible refine below_drewN ?_ _) | (with_reducible refine Below.drew ?_) | (with_reducible refine Below.alloc ?_ ?_ _) | (with_reducible refine Below.setCell ?_ ?_ _) | (with_reducible refine Below.trans ?_ (Below.mono (by with_reducible assumption) ?_)) | omega | (simp only [World.size_alloc] at *; omega) | (with_reducible refine Below.size (B := 0) ?_)))⟩

set_option maxRecDepth 100000 in
set_option maxHeartbeats 800000 in
theorem sub_bad2 (s : Nat → Addr) (x y : V4) (w : World) (hs : Sent s w) (hx : goodV x = true) (hy : goodV y = false) :
    Calls Tryd.prog 33 #[.agg #[.int .i64 x.a, .int .i64 x.b, .int .i64 x.c, .int .i64 x.d], .agg #[.int .i64 y.a, .int .i64 y.b, .int .i64 y.c, .int .i64 y.d]] w fun e w' => e = .returned (.tuple #[.agg #[.int .i64 ((subR x y).1).a, .int .i64 ((subR x y).1).b, .int .i64 ((subR x y).1).c, .int .i64 ((subR x y).1).d], errV s (subR x y).2]) ∧ Below w.heap.size w w' := by
  rw [sub_no2 hy]
  have hg := hs.cell 0 (by omega)
  simp only [gnum, List.getD_cons_zero] at hg
  have hgl : 0 < w.heap.size := lt_of_cell hg
  try (have hgl0 : 0 < w.heap.size := by omega)
  try (have hgl1 : 1 < w.heap.size := by omega)
  try (have hgl2 : 2 < w.heap.size := by omega)
  try (have hgl3 : 3 < w.heap.size := by omega)
  try (have hgl4 : 4 < w.heap.size := by omega)
  try (have hgl5 : 5 < w.heap.size := by omega)
  try (have hgl6 : 6 < w.heap.size := by omega)
  try (have hgl7 : 7 < w.heap.size := by omega)
  try (have hgl8 : 8 < w.heap.size := by omega)
  try (have hgl9 : 9 < w.heap.size := by omega)
  try (have hgl10 : 10 < w.heap.size := by omega)
  try (have hgl11 : 11 < w.heap.size := by omega)
  try (have hgl12 : 12 < w.heap.size := by omega)
  obtain ⟨a, b, c, d⟩ := x
  obtain ⟨a', b', c', d'⟩ := y
  clear hs
  go_enter Tryd.func33, Tryd.ntmps33
  go_wp2_with fail
  refine (good_x ⟨a, b, c, d⟩ _).mono ?_
  rintro e w1 ⟨rfl, rfl⟩
  go_wp2_with fail
  refine (good_x ⟨a', b', c', d'⟩ _).mono ?_
  rintro e w2 ⟨rfl, rfl⟩
  go_wp2_with fail
  go_region
  all_goals go_wp2_with fail
  all_goals exact bodyPost_ret (v := .tuple #[.agg #[.int .i64 0, .int .i64 0, .int .i64 0, .int .i64 0], .iface 113 (.pointer (some (s 0)))]) (by simp [results, Tryd.results33, go_sem]) rfl ⟨rfl, by (repeat' (first | (with_reducible exact Below.refl _ _) | (with_reducible refine below_drewN ?_ _) | (with_reducible refine Below.drew ?_) | (with_reducible refine Below.alloc ?_ ?_ _) | (with_reducible refine Below.setCell ?_ ?_ _) | (with_reducible refine Below.trans ?_ (Below.mono (by with_reducible assumption) ?_)) | omega | (simp only [World.size_alloc] at *; omega) | (with_reducible refine Below.size (B := 0) ?_)))⟩

theorem sub_c (s : Nat → Addr) (x y : V4) (w : World) (hs : Sent s w) :
    Calls Tryd.prog 33 #[.agg #[.int .i64 x.a, .int .i64 x.b, .int .i64 x.c, .int .i64 x.d], .agg #[.int .i64 y.a, .int .i64 y.b, .int .i64 y.c, .int .i64 y.d]] w fun e w' => e = .returned (.tuple #[.agg #[.int .i64 ((subR x y).1).a, .int .i64 ((subR x y).1).b, .int .i64 ((subR x y).1).c, .int .i64 ((subR x y).1).d], errV s (subR x y).2]) ∧ Below w.heap.size w w' := by
  cases hx : goodV x
  · exact sub_bad1 s x y w hs hx
  · cases hy : goodV y
    · exact sub_bad2 s x y w hs hx hy
    · exact sub_good s x y w hs hx hy

end Go.Proofs.YtlckofoabnnlhaaDoor
