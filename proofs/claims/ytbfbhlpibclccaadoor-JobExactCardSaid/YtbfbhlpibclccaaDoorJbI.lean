/- The program's table of jobs by contracts: Total, Good. Condition: the sentinels lie where the program's text lays them. -/
import Derived.Test.YtbfbhlpibclccaaDoorJbH
namespace Go.Proofs.YtbfbhlpibclccaaDoor
open Go Go.RowKit Go.Maps

theorem jwithin_c (n a b : Int) (w : World) : Calls Tryd.prog 48 #[.int .i64 n, .int .i64 a, .int .i64 b] w fun e w' => e = .returned (.bool (inB n a b)) ∧ w' = w := by
  unfold inB
  by_cases h1 : a ≤ n
  · by_cases h2 : n ≤ b
    · go_enter Tryd.func48, Tryd.ntmps48
      go_wp2
      go_ret
      exact ⟨by simp [h1, h2], rfl⟩
    · go_enter Tryd.func48, Tryd.ntmps48
      go_wp2
      go_ret
      exact ⟨by simp [h2], rfl⟩
  · go_enter Tryd.func48, Tryd.ntmps48
    go_wp2
    go_ret
    exact ⟨by simp; omega, rfl⟩
theorem put4 {W : World} {X : Nat} {z0 z1 z2 z3 : Value} {t : TypeId} (h : W.heap[X]? = some (.cells #[z0, z1, z2, z3] t (0, 0))) (a0 a1 a2 a3 : Value) :
    ((((W.setCell ⟨X, 0, none⟩ a0).setCell ⟨X, 1, none⟩ a1).setCell ⟨X, 2, none⟩ a2).setCell ⟨X, 3, none⟩ a3).heap[X]? = some (.cells #[a0, a1, a2, a3] t (0, 0)) ∧ Below X W ((((W.setCell ⟨X, 0, none⟩ a0).setCell ⟨X, 1, none⟩ a1).setCell ⟨X, 2, none⟩ a2).setCell ⟨X, 3, none⟩ a3) := by
  refine ⟨?_, ((((Below.refl X W).setCell (Nat.le_refl _) _).setCell (Nat.le_refl _) _).setCell (Nat.le_refl _) _).setCell (Nat.le_refl _) _⟩
  simp [World.setCell, Array.getElem?_modify, h]
set_option maxRecDepth 100000 in
set_option maxHeartbeats 1600000 in
/-- job.Total. -/
theorem jtotal_c (s : Nat → Addr) (j : JR) (w : World) (hs : Sent s w) :
    Calls Tryd.prog 17 #[.agg #[.int .i64 j.id, .int .i64 j.tenant, .int .i64 j.cell, .int .i64 j.band, .int .i64 j.tasks, .int .i64 j.need.a, .int .i64 j.need.b, .int .i64 j.need.c, .int .i64 j.need.d, .int .i64 j.first, .int .i64 j.windows, .int .i64 j.budget, .bool j.env, .int .i64 j.set]] w fun e w' => e = .returned (.tuple #[.agg #[.int .i64 ((scaleR j.need j.tasks).1).a, .int .i64 ((scaleR j.need j.tasks).1).b, .int .i64 ((scaleR j.need j.tasks).1).c, .int .i64 ((scaleR j.need j.tasks).1).d], errV s (scaleR j.need j.tasks).2]) ∧ Below w.heap.size w w' := by
  obtain ⟨X, hX⟩ : ∃ X, w.heap.size = X := ⟨_, rfl⟩
  obtain ⟨Wa, hWa⟩ : ∃ Wa, w.alloc (.cells #[.int .i64 j.id, .int .i64 j.tenant, .int .i64 j.cell, .int .i64 j.band, .int .i64 j.tasks, .int .i64 j.need.a, .int .i64 j.need.b, .int .i64 j.need.c, .int .i64 j.need.d, .int .i64 j.first, .int .i64 j.windows, .int .i64 j.budget, .bool j.env, .int .i64 j.set] 33) = Wa := ⟨_, rfl⟩
  obtain ⟨Y, hY⟩ : ∃ Y, Wa.heap.size = Y := ⟨_, rfl⟩
  obtain ⟨W1, hW1⟩ : ∃ W1, Wa.alloc (.cells #[.int .i64 0, .int .i64 0, .int .i64 0, .int .i64 0] 31) = W1 := ⟨_, rfl⟩
  have hba : Below w.heap.size w Wa := by rw [← hWa]; exact (Below.refl _ _).alloc (Nat.le_refl _) _
  have hxa : Wa.heap[X]? = some (.cells #[.int .i64 j.id, .int .i64 j.tenant, .int .i64 j.cell, .int .i64 j.band, .int .i64 j.tasks, .int .i64 j.need.a, .int .i64 j.need.b, .int .i64 j.need.c, .int .i64 j.need.d, .int .i64 j.first, .int .i64 j.windows, .int .i64 j.budget, .bool j.env, .int .i64 j.set] 33 (0, 0)) := by rw [← hWa, ← hX]; exact heap_alloc_new _ _
  have hb1 : Below w.heap.size w W1 := by rw [← hW1]; exact hba.alloc hba.size _
  have hx1 : W1.heap[X]? = some (.cells #[.int .i64 j.id, .int .i64 j.tenant, .int .i64 j.cell, .int .i64 j.band, .int .i64 j.tasks, .int .i64 j.need.a, .int .i64 j.need.b, .int .i64 j.need.c, .int .i64 j.need.d, .int .i64 j.first, .int .i64 j.windows, .int .i64 j.budget, .bool j.env, .int .i64 j.set] 33 (0, 0)) := by rw [← hW1]; exact (Below.heap_alloc _ _ _ (lt_of_row hxa)).trans hxa
  have hy1 : W1.heap[Y]? = some (.cells #[.int .i64 0, .int .i64 0, .int .i64 0, .int .i64 0] 31 (0, 0)) := by rw [← hW1, ← hY]; exact heap_alloc_new _ _
  have HXY : Hid (w.heap.size ≤ Y) := Lib.hid (by rw [← hY]; exact hba.size)
  have HY0 : Hid (X + 1 = Y) := Lib.hid (by rw [← hY, ← hX, ← hWa]; simp)
  have HWa := Lib.hid hWa; have HW1 := Lib.hid hW1; have HX := Lib.hid hX; have HB1 := Lib.hid hb1; have HY1 := Lib.hid hy1
  have hc := scale_c s j.need j.tasks W1 (hs.below hb1 (Nat.le_refl _))
  obtain ⟨V, hV⟩ : ∃ V, (scaleR j.need j.tasks).1 = V := ⟨_, rfl⟩
  obtain ⟨E, hE⟩ : ∃ E, errV s (scaleR j.need j.tasks).2 = E := ⟨_, rfl⟩
  rw [hV, hE] at hc ⊢
  have HC := Lib.hid hc
  have x4 := cell_of_heap hx1 4
  have x5 := cell_of_heap hx1 5
  have x6 := cell_of_heap hx1 6
  have x7 := cell_of_heap hx1 7
  have x8 := cell_of_heap hx1 8
  simp at x4 x5 x6 x7 x8
  clear hs hX hWa hY hW1 hba hxa hb1 hx1 hy1 hc hV hE
  go_enter Tryd.func17, Tryd.ntmps17
  go_upto_region 1 with fail
  rw [HWa.out, HX.out, HW1.out, HY0.out]
  go_wp2_with fail
  refine HC.out.mono ?_
  rintro e w2 ⟨rfl, hb2⟩
  have hy2 := (hb2.block Y (lt_of_row HY1.out)).trans HY1.out
  have yf := fun k => frozen_of_heap hy2 k
  have y0 := cell_of_heap hy2 0
  have y1 := cell_of_heap hy2 1
  have y2 := cell_of_heap hy2 2
  have y3 := cell_of_heap hy2 3
  simp at y0 y1 y2 y3
  have HY2 := Lib.hid hy2
  have HB2 := Lib.hid hb2
  clear hy2 hb2 x4 x5 x6 x7 x8
  go_wp2_with fail
  obtain ⟨k1, k2⟩ := put4 HY2.out (.int .i64 V.a) (.int .i64 V.b) (.int .i64 V.c) (.int .i64 V.d)
  obtain ⟨W3, hW3⟩ : ∃ W3, (((w2.setCell ⟨Y, 0, none⟩ (.int .i64 V.a)).setCell ⟨Y, 1, none⟩ (.int .i64 V.b)).setCell ⟨Y, 2, none⟩ (.int .i64 V.c)).setCell ⟨Y, 3, none⟩ (.int .i64 V.d) = W3 := ⟨_, rfl⟩
  rw [hW3] at k1 k2 ⊢
  clear hW3 y0 y1 y2 y3 yf
  have z0 := cell_of_heap k1 0
  have z1 := cell_of_heap k1 1
  have z2 := cell_of_heap k1 2
  have z3 := cell_of_heap k1 3
  simp at z0 z1 z2 z3
  refine bodyPost_ret (v := .tuple #[.agg #[.int .i64 V.a, .int .i64 V.b, .int .i64 V.c, .int .i64 V.d], E]) (by simp [results, Tryd.results17, go_sem, z0, z1, z2, z3]) rfl ?_
  exact ⟨rfl, (HB1.out.trans (HB2.out.mono HB1.out.size)).trans (k2.mono HXY.out)⟩
set_option maxRecDepth 100000 in
set_option maxHeartbeats 3200000 in
/-- Good, whatever the total's error is told as. -/
theorem jgood_err (s : Nat → Addr) (j : JR) (w : World) (hs : Sent s w) (h0 : (scaleR j.need j.tasks).2 ≠ 0) :
    Calls Tryd.prog 21 #[.agg #[.int .i64 j.id, .int .i64 j.tenant, .int .i64 j.cell, .int .i64 j.band, .int .i64 j.tasks, .int .i64 j.need.a, .int .i64 j.need.b, .int .i64 j.need.c, .int .i64 j.need.d, .int .i64 j.first, .int .i64 j.windows, .int .i64 j.budget, .bool j.env, .int .i64 j.set]] w fun e w' => e = .returned (.bool false) ∧ Below w.heap.size w w' := by
  obtain ⟨X, hX⟩ : ∃ X, w.heap.size = X := ⟨_, rfl⟩
  obtain ⟨W1, hW1⟩ : ∃ W1, w.alloc (.cells #[.int .i64 j.id, .int .i64 j.tenant, .int .i64 j.cell, .int .i64 j.band, .int .i64 j.tasks, .int .i64 j.need.a, .int .i64 j.need.b, .int .i64 j.need.c, .int .i64 j.need.d, .int .i64 j.first, .int .i64 j.windows, .int .i64 j.budget, .bool j.env, .int .i64 j.set] 33) = W1 := ⟨_, rfl⟩
  have hb1 : Below w.heap.size w W1 := by rw [← hW1]; exact (Below.refl _ _).alloc (Nat.le_refl _) _
  have hx1 : W1.heap[X]? = some (.cells #[.int .i64 j.id, .int .i64 j.tenant, .int .i64 j.cell, .int .i64 j.band, .int .i64 j.tasks, .int .i64 j.need.a, .int .i64 j.need.b, .int .i64 j.need.c, .int .i64 j.need.d, .int .i64 j.first, .int .i64 j.windows, .int .i64 j.budget, .bool j.env, .int .i64 j.set] 33 (0, 0)) := by rw [← hW1, ← hX]; exact heap_alloc_new _ _
  have hc := jtotal_c s j W1 (hs.below hb1 (Nat.le_refl _))
  have x0 := cell_of_heap hx1 0
  have x1 := cell_of_heap hx1 1
  have x2 := cell_of_heap hx1 2
  have x3 := cell_of_heap hx1 3
  have x4 := cell_of_heap hx1 4
  have x5 := cell_of_heap hx1 5
  have x6 := cell_of_heap hx1 6
  have x7 := cell_of_heap hx1 7
  have x8 := cell_of_heap hx1 8
  have x9 := cell_of_heap hx1 9
  have x10 := cell_of_heap hx1 10
  have x11 := cell_of_heap hx1 11
  have x12 := cell_of_heap hx1 12
  have x13 := cell_of_heap hx1 13
  simp at x0 x1 x2 x3 x4 x5 x6 x7 x8 x9 x10 x11 x12 x13
  have HX1 := Lib.hid hx1
  have HW1 := Lib.hid hW1; have HX := Lib.hid hX; have HB1 := Lib.hid hb1
  obtain ⟨V, hV⟩ : ∃ V, (scaleR j.need j.tasks).1 = V := ⟨_, rfl⟩
  rw [hV, errA s _ (by omega)] at hc
  have HC := Lib.hid hc
  clear hs hX hW1 hb1 hx1 hc hV h0
  go_enter Tryd.func21, Tryd.ntmps21
  go_upto_region 1 with fail
  rw [HW1.out, HX.out]
  go_wp2_with fail
  refine HC.out.mono ?_
  rintro e w2 ⟨rfl, hb2⟩
  have hx2 := (hb2.block X (lt_of_row HX1.out)).trans HX1.out
  have HB2 := Lib.hid hb2
  clear hb2 x0 x1 x2 x3 x4 x5 x6 x7 x8 x9 x10 x11 x12 x13
  obtain ⟨W3, hW3⟩ : ∃ W3, w2.alloc (.cells #[.int .i64 V.a, .int .i64 V.b, .int .i64 V.c, .int .i64 V.d] 31) = W3 := ⟨_, rfl⟩
  have hb3 : Below w2.heap.size w2 W3 := by rw [← hW3]; exact (Below.refl _ _).alloc (Nat.le_refl _) _
  have hx3 := (hb3.block X (lt_of_row hx2)).trans hx2
  have x0 := cell_of_heap hx3 0
  have x1 := cell_of_heap hx3 1
  have x2 := cell_of_heap hx3 2
  have x3 := cell_of_heap hx3 3
  have x4 := cell_of_heap hx3 4
  have x9 := cell_of_heap hx3 9
  have x10 := cell_of_heap hx3 10
  have x11 := cell_of_heap hx3 11
  have x12 := cell_of_heap hx3 12
  have x13 := cell_of_heap hx3 13
  simp at x0 x1 x2 x3 x4 x9 x10 x11 x12 x13
  have HB3 := Lib.hid hb3
  have HW3 := Lib.hid hW3
  clear hb3 hx2 hx3 hW3
  go_upto_region 2 with fail
  rw [HW3.out]
  go_wp2_with (fail)
  go_ret
  exact ⟨rfl, (HB1.out.trans (HB2.out.mono HB1.out.size)).trans (HB3.out.mono (HB1.out.trans (HB2.out.mono HB1.out.size)).size)⟩
set_option maxRecDepth 100000 in
set_option maxHeartbeats 6400000 in
theorem jgood_n0 (s : Nat → Addr) (j : JR) (w : World) (hs : Sent s w) (h0 : (scaleR j.need j.tasks).2 = 0) (k0 : inB j.id 1 999 = false) :
    Calls Tryd.prog 21 #[.agg #[.int .i64 j.id, .int .i64 j.tenant, .int .i64 j.cell, .int .i64 j.band, .int .i64 j.tasks, .int .i64 j.need.a, .int .i64 j.need.b, .int .i64 j.need.c, .int .i64 j.need.d, .int .i64 j.first, .int .i64 j.windows, .int .i64 j.budget, .bool j.env, .int .i64 j.set]] w fun e w' => e = .returned (.bool false) ∧ Below w.heap.size w w' := by
  obtain ⟨X, hX⟩ : ∃ X, w.heap.size = X := ⟨_, rfl⟩
  obtain ⟨W1, hW1⟩ : ∃ W1, w.alloc (.cells #[.int .i64 j.id, .int .i64 j.tenant, .int .i64 j.cell, .int .i64 j.band, .int .i64 j.tasks, .int .i64 j.need.a, .int .i64 j.need.b, .int .i64 j.need.c, .int .i64 j.need.d, .int .i64 j.first, .int .i64 j.windows, .int .i64 j.budget, .bool j.env, .int .i64 j.set] 33) = W1 := ⟨_, rfl⟩
  have hb1 : Below w.heap.size w W1 := by rw [← hW1]; exact (Below.refl _ _).alloc (Nat.le_refl _) _
  have hx1 : W1.heap[X]? = some (.cells #[.int .i64 j.id, .int .i64 j.tenant, .int .i64 j.cell, .int .i64 j.band, .int .i64 j.tasks, .int .i64 j.need.a, .int .i64 j.need.b, .int .i64 j.need.c, .int .i64 j.need.d, .int .i64 j.first, .int .i64 j.windows, .int .i64 j.budget, .bool j.env, .int .i64 j.set] 33 (0, 0)) := by rw [← hW1, ← hX]; exact heap_alloc_new _ _
  have hc := jtotal_c s j W1 (hs.below hb1 (Nat.le_refl _))
  have x0 := cell_of_heap hx1 0
  have x1 := cell_of_heap hx1 1
  have x2 := cell_of_heap hx1 2
  have x3 := cell_of_heap hx1 3
  have x4 := cell_of_heap hx1 4
  have x5 := cell_of_heap hx1 5
  have x6 := cell_of_heap hx1 6
  have x7 := cell_of_heap hx1 7
  have x8 := cell_of_heap hx1 8
  have x9 := cell_of_heap hx1 9
  have x10 := cell_of_heap hx1 10
  have x11 := cell_of_heap hx1 11
  have x12 := cell_of_heap hx1 12
  have x13 := cell_of_heap hx1 13
  simp at x0 x1 x2 x3 x4 x5 x6 x7 x8 x9 x10 x11 x12 x13
  have HX1 := Lib.hid hx1
  have HW1 := Lib.hid hW1; have HX := Lib.hid hX; have HB1 := Lib.hid hb1
  obtain ⟨V, hV⟩ : ∃ V, (scaleR j.need j.tasks).1 = V := ⟨_, rfl⟩
  rw [hV, h0, errA0] at hc
  have HC := Lib.hid hc
  have hq0 := fun (W : World) => jwithin_c j.id 1 999 W
  rw [k0] at hq0
  have HQ0 := Lib.hid hq0
  clear hq0 k0
  clear hs hX hW1 hb1 hx1 hc hV h0
  go_enter Tryd.func21, Tryd.ntmps21
  go_upto_region 1 with fail
  rw [HW1.out, HX.out]
  go_wp2_with fail
  refine HC.out.mono ?_
  rintro e w2 ⟨rfl, hb2⟩
  have hx2 := (hb2.block X (lt_of_row HX1.out)).trans HX1.out
  have HB2 := Lib.hid hb2
  clear hb2 x0 x1 x2 x3 x4 x5 x6 x7 x8 x9 x10 x11 x12 x13
  obtain ⟨W3, hW3⟩ : ∃ W3, w2.alloc (.cells #[.int .i64 V.a, .int .i64 V.b, .int .i64 V.c, .int .i64 V.d] 31) = W3 := ⟨_, rfl⟩
  have hb3 : Below w2.heap.size w2 W3 := by rw [← hW3]; exact (Below.refl _ _).alloc (Nat.le_refl _) _
  have hx3 := (hb3.block X (lt_of_row hx2)).trans hx2
  have x0 := cell_of_heap hx3 0
  have x1 := cell_of_heap hx3 1
  have x2 := cell_of_heap hx3 2
  have x3 := cell_of_heap hx3 3
  have x4 := cell_of_heap hx3 4
  have x9 := cell_of_heap hx3 9
  have x10 := cell_of_heap hx3 10
  have x11 := cell_of_heap hx3 11
  have x12 := cell_of_heap hx3 12
  have x13 := cell_of_heap hx3 13
  simp at x0 x1 x2 x3 x4 x9 x10 x11 x12 x13
  have HB3 := Lib.hid hb3
  have HW3 := Lib.hid hW3
  clear hb3 hx2 hx3 hW3
  go_upto_region 2 with fail
  rw [HW3.out]
  go_wp2_with (first | (go_at_call 48; (with_reducible refine (HQ0.out _).mono ?_); rintro e wx ⟨rfl, rfl⟩) | fail)
  go_ret
  exact ⟨rfl, (HB1.out.trans (HB2.out.mono HB1.out.size)).trans (HB3.out.mono (HB1.out.trans (HB2.out.mono HB1.out.size)).size)⟩
set_option maxRecDepth 100000 in
set_option maxHeartbeats 6400000 in
theorem jgood_n1 (s : Nat → Addr) (j : JR) (w : World) (hs : Sent s w) (h0 : (scaleR j.need j.tasks).2 = 0) (k0 : inB j.id 1 999 = true) (k1 : inB j.tenant 1 999 = false) :
    Calls Tryd.prog 21 #[.agg #[.int .i64 j.id, .int .i64 j.tenant, .int .i64 j.cell, .int .i64 j.band, .int .i64 j.tasks, .int .i64 j.need.a, .int .i64 j.need.b, .int .i64 j.need.c, .int .i64 j.need.d, .int .i64 j.first, .int .i64 j.windows, .int .i64 j.budget, .bool j.env, .int .i64 j.set]] w fun e w' => e = .returned (.bool false) ∧ Below w.heap.size w w' := by
  obtain ⟨X, hX⟩ : ∃ X, w.heap.size = X := ⟨_, rfl⟩
  obtain ⟨W1, hW1⟩ : ∃ W1, w.alloc (.cells #[.int .i64 j.id, .int .i64 j.tenant, .int .i64 j.cell, .int .i64 j.band, .int .i64 j.tasks, .int .i64 j.need.a, .int .i64 j.need.b, .int .i64 j.need.c, .int .i64 j.need.d, .int .i64 j.first, .int .i64 j.windows, .int .i64 j.budget, .bool j.env, .int .i64 j.set] 33) = W1 := ⟨_, rfl⟩
  have hb1 : Below w.heap.size w W1 := by rw [← hW1]; exact (Below.refl _ _).alloc (Nat.le_refl _) _
  have hx1 : W1.heap[X]? = some (.cells #[.int .i64 j.id, .int .i64 j.tenant, .int .i64 j.cell, .int .i64 j.band, .int .i64 j.tasks, .int .i64 j.need.a, .int .i64 j.need.b, .int .i64 j.need.c, .int .i64 j.need.d, .int .i64 j.first, .int .i64 j.windows, .int .i64 j.budget, .bool j.env, .int .i64 j.set] 33 (0, 0)) := by rw [← hW1, ← hX]; exact heap_alloc_new _ _
  have hc := jtotal_c s j W1 (hs.below hb1 (Nat.le_refl _))
  have x0 := cell_of_heap hx1 0
  have x1 := cell_of_heap hx1 1
  have x2 := cell_of_heap hx1 2
  have x3 := cell_of_heap hx1 3
  have x4 := cell_of_heap hx1 4
  have x5 := cell_of_heap hx1 5
  have x6 := cell_of_heap hx1 6
  have x7 := cell_of_heap hx1 7
  have x8 := cell_of_heap hx1 8
  have x9 := cell_of_heap hx1 9
  have x10 := cell_of_heap hx1 10
  have x11 := cell_of_heap hx1 11
  have x12 := cell_of_heap hx1 12
  have x13 := cell_of_heap hx1 13
  simp at x0 x1 x2 x3 x4 x5 x6 x7 x8 x9 x10 x11 x12 x13
  have HX1 := Lib.hid hx1
  have HW1 := Lib.hid hW1; have HX := Lib.hid hX; have HB1 := Lib.hid hb1
  obtain ⟨V, hV⟩ : ∃ V, (scaleR j.need j.tasks).1 = V := ⟨_, rfl⟩
  rw [hV, h0, errA0] at hc
  have HC := Lib.hid hc
  have hq0 := fun (W : World) => jwithin_c j.id 1 999 W
  rw [k0] at hq0
  have HQ0 := Lib.hid hq0
  clear hq0 k0
  have hq1 := fun (W : World) => jwithin_c j.tenant 1 999 W
  rw [k1] at hq1
  have HQ1 := Lib.hid hq1
  clear hq1 k1
  clear hs hX hW1 hb1 hx1 hc hV h0
  go_enter Tryd.func21, Tryd.ntmps21
  go_upto_region 1 with fail
  rw [HW1.out, HX.out]
  go_wp2_with fail
  refine HC.out.mono ?_
  rintro e w2 ⟨rfl, hb2⟩
  have hx2 := (hb2.block X (lt_of_row HX1.out)).trans HX1.out
  have HB2 := Lib.hid hb2
  clear hb2 x0 x1 x2 x3 x4 x5 x6 x7 x8 x9 x10 x11 x12 x13
  obtain ⟨W3, hW3⟩ : ∃ W3, w2.alloc (.cells #[.int .i64 V.a, .int .i64 V.b, .int .i64 V.c, .int .i64 V.d] 31) = W3 := ⟨_, rfl⟩
  have hb3 : Below w2.heap.size w2 W3 := by rw [← hW3]; exact (Below.refl _ _).alloc (Nat.le_refl _) _
  have hx3 := (hb3.block X (lt_of_row hx2)).trans hx2
  have x0 := cell_of_heap hx3 0
  have x1 := cell_of_heap hx3 1
  have x2 := cell_of_heap hx3 2
  have x3 := cell_of_heap hx3 3
  have x4 := cell_of_heap hx3 4
  have x9 := cell_of_heap hx3 9
  have x10 := cell_of_heap hx3 10
  have x11 := cell_of_heap hx3 11
  have x12 := cell_of_heap hx3 12
  have x13 := cell_of_heap hx3 13
  simp at x0 x1 x2 x3 x4 x9 x10 x11 x12 x13
  have HB3 := Lib.hid hb3
  have HW3 := Lib.hid hW3
  clear hb3 hx2 hx3 hW3
  go_upto_region 2 with fail
  rw [HW3.out]
  go_wp2_with (first | (go_at_call 48; (with_reducible refine (HQ0.out _).mono ?_); rintro e wx ⟨rfl, rfl⟩) | (go_at_call 48; (with_reducible refine (HQ1.out _).mono ?_); rintro e wx ⟨rfl, rfl⟩) | fail)
  go_ret
  exact ⟨rfl, (HB1.out.trans (HB2.out.mono HB1.out.size)).trans (HB3.out.mono (HB1.out.trans (HB2.out.mono HB1.out.size)).size)⟩
set_option maxRecDepth 100000 in
set_option maxHeartbeats 6400000 in
theorem jgood_n2 (s : Nat → Addr) (j : JR) (w : World) (hs : Sent s w) (h0 : (scaleR j.need j.tasks).2 = 0) (k0 : inB j.id 1 999 = true) (k1 : inB j.tenant 1 999 = true) (k2 : inB j.cell 1 4 = false) :
    Calls Tryd.prog 21 #[.agg #[.int .i64 j.id, .int .i64 j.tenant, .int .i64 j.cell, .int .i64 j.band, .int .i64 j.tasks, .int .i64 j.need.a, .int .i64 j.need.b, .int .i64 j.need.c, .int .i64 j.need.d, .int .i64 j.first, .int .i64 j.windows, .int .i64 j.budget, .bool j.env, .int .i64 j.set]] w fun e w' => e = .returned (.bool false) ∧ Below w.heap.size w w' := by
  obtain ⟨X, hX⟩ : ∃ X, w.heap.size = X := ⟨_, rfl⟩
  obtain ⟨W1, hW1⟩ : ∃ W1, w.alloc (.cells #[.int .i64 j.id, .int .i64 j.tenant, .int .i64 j.cell, .int .i64 j.band, .int .i64 j.tasks, .int .i64 j.need.a, .int .i64 j.need.b, .int .i64 j.need.c, .int .i64 j.need.d, .int .i64 j.first, .int .i64 j.windows, .int .i64 j.budget, .bool j.env, .int .i64 j.set] 33) = W1 := ⟨_, rfl⟩
  have hb1 : Below w.heap.size w W1 := by rw [← hW1]; exact (Below.refl _ _).alloc (Nat.le_refl _) _
  have hx1 : W1.heap[X]? = some (.cells #[.int .i64 j.id, .int .i64 j.tenant, .int .i64 j.cell, .int .i64 j.band, .int .i64 j.tasks, .int .i64 j.need.a, .int .i64 j.need.b, .int .i64 j.need.c, .int .i64 j.need.d, .int .i64 j.first, .int .i64 j.windows, .int .i64 j.budget, .bool j.env, .int .i64 j.set] 33 (0, 0)) := by rw [← hW1, ← hX]; exact heap_alloc_new _ _
  have hc := jtotal_c s j W1 (hs.below hb1 (Nat.le_refl _))
  have x0 := cell_of_heap hx1 0
  have x1 := cell_of_heap hx1 1
  have x2 := cell_of_heap hx1 2
  have x3 := cell_of_heap hx1 3
  have x4 := cell_of_heap hx1 4
  have x5 := cell_of_heap hx1 5
  have x6 := cell_of_heap hx1 6
  have x7 := cell_of_heap hx1 7
  have x8 := cell_of_heap hx1 8
  have x9 := cell_of_heap hx1 9
  have x10 := cell_of_heap hx1 10
  have x11 := cell_of_heap hx1 11
  have x12 := cell_of_heap hx1 12
  have x13 := cell_of_heap hx1 13
  simp at x0 x1 x2 x3 x4 x5 x6 x7 x8 x9 x10 x11 x12 x13
  have HX1 := Lib.hid hx1
  have HW1 := Lib.hid hW1; have HX := Lib.hid hX; have HB1 := Lib.hid hb1
  obtain ⟨V, hV⟩ : ∃ V, (scaleR j.need j.tasks).1 = V := ⟨_, rfl⟩
  rw [hV, h0, errA0] at hc
  have HC := Lib.hid hc
  have hq0 := fun (W : World) => jwithin_c j.id 1 999 W
  rw [k0] at hq0
  have HQ0 := Lib.hid hq0
  clear hq0 k0
  have hq1 := fun (W : World) => jwithin_c j.tenant 1 999 W
  rw [k1] at hq1
  have HQ1 := Lib.hid hq1
  clear hq1 k1
  have hq2 := fun (W : World) => jwithin_c j.cell 1 4 W
  rw [k2] at hq2
  have HQ2 := Lib.hid hq2
  clear hq2 k2
  clear hs hX hW1 hb1 hx1 hc hV h0
  go_enter Tryd.func21, Tryd.ntmps21
  go_upto_region 1 with fail
  rw [HW1.out, HX.out]
  go_wp2_with fail
  refine HC.out.mono ?_
  rintro e w2 ⟨rfl, hb2⟩
  have hx2 := (hb2.block X (lt_of_row HX1.out)).trans HX1.out
  have HB2 := Lib.hid hb2
  clear hb2 x0 x1 x2 x3 x4 x5 x6 x7 x8 x9 x10 x11 x12 x13
  obtain ⟨W3, hW3⟩ : ∃ W3, w2.alloc (.cells #[.int .i64 V.a, .int .i64 V.b, .int .i64 V.c, .int .i64 V.d] 31) = W3 := ⟨_, rfl⟩
  have hb3 : Below w2.heap.size w2 W3 := by rw [← hW3]; exact (Below.refl _ _).alloc (Nat.le_refl _) _
  have hx3 := (hb3.block X (lt_of_row hx2)).trans hx2
  have x0 := cell_of_heap hx3 0
  have x1 := cell_of_heap hx3 1
  have x2 := cell_of_heap hx3 2
  have x3 := cell_of_heap hx3 3
  have x4 := cell_of_heap hx3 4
  have x9 := cell_of_heap hx3 9
  have x10 := cell_of_heap hx3 10
  have x11 := cell_of_heap hx3 11
  have x12 := cell_of_heap hx3 12
  have x13 := cell_of_heap hx3 13
  simp at x0 x1 x2 x3 x4 x9 x10 x11 x12 x13
  have HB3 := Lib.hid hb3
  have HW3 := Lib.hid hW3
  clear hb3 hx2 hx3 hW3
  go_upto_region 2 with fail
  rw [HW3.out]
  go_wp2_with (first | (go_at_call 48; (with_reducible refine (HQ0.out _).mono ?_); rintro e wx ⟨rfl, rfl⟩) | (go_at_call 48; (with_reducible refine (HQ1.out _).mono ?_); rintro e wx ⟨rfl, rfl⟩) | (go_at_call 48; (with_reducible refine (HQ2.out _).mono ?_); rintro e wx ⟨rfl, rfl⟩) | fail)
  go_ret
  exact ⟨rfl, (HB1.out.trans (HB2.out.mono HB1.out.size)).trans (HB3.out.mono (HB1.out.trans (HB2.out.mono HB1.out.size)).size)⟩
set_option maxRecDepth 100000 in
set_option maxHeartbeats 6400000 in
theorem jgood_n3 (s : Nat → Addr) (j : JR) (w : World) (hs : Sent s w) (h0 : (scaleR j.need j.tasks).2 = 0) (k0 : inB j.id 1 999 = true) (k1 : inB j.tenant 1 999 = true) (k2 : inB j.cell 1 4 = true) (k3 : inB j.band 0 2 = false) :
    Calls Tryd.prog 21 #[.agg #[.int .i64 j.id, .int .i64 j.tenant, .int .i64 j.cell, .int .i64 j.band, .int .i64 j.tasks, .int .i64 j.need.a, .int .i64 j.need.b, .int .i64 j.need.c, .int .i64 j.need.d, .int .i64 j.first, .int .i64 j.windows, .int .i64 j.budget, .bool j.env, .int .i64 j.set]] w fun e w' => e = .returned (.bool false) ∧ Below w.heap.size w w' := by
  obtain ⟨X, hX⟩ : ∃ X, w.heap.size = X := ⟨_, rfl⟩
  obtain ⟨W1, hW1⟩ : ∃ W1, w.alloc (.cells #[.int .i64 j.id, .int .i64 j.tenant, .int .i64 j.cell, .int .i64 j.band, .int .i64 j.tasks, .int .i64 j.need.a, .int .i64 j.need.b, .int .i64 j.need.c, .int .i64 j.need.d, .int .i64 j.first, .int .i64 j.windows, .int .i64 j.budget, .bool j.env, .int .i64 j.set] 33) = W1 := ⟨_, rfl⟩
  have hb1 : Below w.heap.size w W1 := by rw [← hW1]; exact (Below.refl _ _).alloc (Nat.le_refl _) _
  have hx1 : W1.heap[X]? = some (.cells #[.int .i64 j.id, .int .i64 j.tenant, .int .i64 j.cell, .int .i64 j.band, .int .i64 j.tasks, .int .i64 j.need.a, .int .i64 j.need.b, .int .i64 j.need.c, .int .i64 j.need.d, .int .i64 j.first, .int .i64 j.windows, .int .i64 j.budget, .bool j.env, .int .i64 j.set] 33 (0, 0)) := by rw [← hW1, ← hX]; exact heap_alloc_new _ _
  have hc := jtotal_c s j W1 (hs.below hb1 (Nat.le_refl _))
  have x0 := cell_of_heap hx1 0
  have x1 := cell_of_heap hx1 1
  have x2 := cell_of_heap hx1 2
  have x3 := cell_of_heap hx1 3
  have x4 := cell_of_heap hx1 4
  have x5 := cell_of_heap hx1 5
  have x6 := cell_of_heap hx1 6
  have x7 := cell_of_heap hx1 7
  have x8 := cell_of_heap hx1 8
  have x9 := cell_of_heap hx1 9
  have x10 := cell_of_heap hx1 10
  have x11 := cell_of_heap hx1 11
  have x12 := cell_of_heap hx1 12
  have x13 := cell_of_heap hx1 13
  simp at x0 x1 x2 x3 x4 x5 x6 x7 x8 x9 x10 x11 x12 x13
  have HX1 := Lib.hid hx1
  have HW1 := Lib.hid hW1; have HX := Lib.hid hX; have HB1 := Lib.hid hb1
  obtain ⟨V, hV⟩ : ∃ V, (scaleR j.need j.tasks).1 = V := ⟨_, rfl⟩
  rw [hV, h0, errA0] at hc
  have HC := Lib.hid hc
  have hq0 := fun (W : World) => jwithin_c j.id 1 999 W
  rw [k0] at hq0
  have HQ0 := Lib.hid hq0
  clear hq0 k0
  have hq1 := fun (W : World) => jwithin_c j.tenant 1 999 W
  rw [k1] at hq1
  have HQ1 := Lib.hid hq1
  clear hq1 k1
  have hq2 := fun (W : World) => jwithin_c j.cell 1 4 W
  rw [k2] at hq2
  have HQ2 := Lib.hid hq2
  clear hq2 k2
  have hq3 := fun (W : World) => jwithin_c j.band 0 2 W
  rw [k3] at hq3
  have HQ3 := Lib.hid hq3
  clear hq3 k3
  clear hs hX hW1 hb1 hx1 hc hV h0
  go_enter Tryd.func21, Tryd.ntmps21
  go_upto_region 1 with fail
  rw [HW1.out, HX.out]
  go_wp2_with fail
  refine HC.out.mono ?_
  rintro e w2 ⟨rfl, hb2⟩
  have hx2 := (hb2.block X (lt_of_row HX1.out)).trans HX1.out
  have HB2 := Lib.hid hb2
  clear hb2 x0 x1 x2 x3 x4 x5 x6 x7 x8 x9 x10 x11 x12 x13
  obtain ⟨W3, hW3⟩ : ∃ W3, w2.alloc (.cells #[.int .i64 V.a, .int .i64 V.b, .int .i64 V.c, .int .i64 V.d] 31) = W3 := ⟨_, rfl⟩
  have hb3 : Below w2.heap.size w2 W3 := by rw [← hW3]; exact (Below.refl _ _).alloc (Nat.le_refl _) _
  have hx3 := (hb3.block X (lt_of_row hx2)).trans hx2
  have x0 := cell_of_heap hx3 0
  have x1 := cell_of_heap hx3 1
  have x2 := cell_of_heap hx3 2
  have x3 := cell_of_heap hx3 3
  have x4 := cell_of_heap hx3 4
  have x9 := cell_of_heap hx3 9
  have x10 := cell_of_heap hx3 10
  have x11 := cell_of_heap hx3 11
  have x12 := cell_of_heap hx3 12
  have x13 := cell_of_heap hx3 13
  simp at x0 x1 x2 x3 x4 x9 x10 x11 x12 x13
  have HB3 := Lib.hid hb3
  have HW3 := Lib.hid hW3
  clear hb3 hx2 hx3 hW3
  go_upto_region 2 with fail
  rw [HW3.out]
  go_wp2_with (first | (go_at_call 48; (with_reducible refine (HQ0.out _).mono ?_); rintro e wx ⟨rfl, rfl⟩) | (go_at_call 48; (with_reducible refine (HQ1.out _).mono ?_); rintro e wx ⟨rfl, rfl⟩) | (go_at_call 48; (with_reducible refine (HQ2.out _).mono ?_); rintro e wx ⟨rfl, rfl⟩) | (go_at_call 48; (with_reducible refine (HQ3.out _).mono ?_); rintro e wx ⟨rfl, rfl⟩) | fail)
  go_ret
  exact ⟨rfl, (HB1.out.trans (HB2.out.mono HB1.out.size)).trans (HB3.out.mono (HB1.out.trans (HB2.out.mono HB1.out.size)).size)⟩
set_option maxRecDepth 100000 in
set_option maxHeartbeats 6400000 in
theorem jgood_n4 (s : Nat → Addr) (j : JR) (w : World) (hs : Sent s w) (h0 : (scaleR j.need j.tasks).2 = 0) (k0 : inB j.id 1 999 = true) (k1 : inB j.tenant 1 999 = true) (k2 : inB j.cell 1 4 = true) (k3 : inB j.band 0 2 = true) (k4 : inB j.tasks 1 8 = false) :
    Calls Tryd.prog 21 #[.agg #[.int .i64 j.id, .int .i64 j.tenant, .int .i64 j.cell, .int .i64 j.band, .int .i64 j.tasks, .int .i64 j.need.a, .int .i64 j.need.b, .int .i64 j.need.c, .int .i64 j.need.d, .int .i64 j.first, .int .i64 j.windows, .int .i64 j.budget, .bool j.env, .int .i64 j.set]] w fun e w' => e = .returned (.bool false) ∧ Below w.heap.size w w' := by
  obtain ⟨X, hX⟩ : ∃ X, w.heap.size = X := ⟨_, rfl⟩
  obtain ⟨W1, hW1⟩ : ∃ W1, w.alloc (.cells #[.int .i64 j.id, .int .i64 j.tenant, .int .i64 j.cell, .int .i64 j.band, .int .i64 j.tasks, .int .i64 j.need.a, .int .i64 j.need.b, .int .i64 j.need.c, .int .i64 j.need.d, .int .i64 j.first, .int .i64 j.windows, .int .i64 j.budget, .bool j.env, .int .i64 j.set] 33) = W1 := ⟨_, rfl⟩
  have hb1 : Below w.heap.size w W1 := by rw [← hW1]; exact (Below.refl _ _).alloc (Nat.le_refl _) _
  have hx1 : W1.heap[X]? = some (.cells #[.int .i64 j.id, .int .i64 j.tenant, .int .i64 j.cell, .int .i64 j.band, .int .i64 j.tasks, .int .i64 j.need.a, .int .i64 j.need.b, .int .i64 j.need.c, .int .i64 j.need.d, .int .i64 j.first, .int .i64 j.windows, .int .i64 j.budget, .bool j.env, .int .i64 j.set] 33 (0, 0)) := by rw [← hW1, ← hX]; exact heap_alloc_new _ _
  have hc := jtotal_c s j W1 (hs.below hb1 (Nat.le_refl _))
  have x0 := cell_of_heap hx1 0
  have x1 := cell_of_heap hx1 1
  have x2 := cell_of_heap hx1 2
  have x3 := cell_of_heap hx1 3
  have x4 := cell_of_heap hx1 4
  have x5 := cell_of_heap hx1 5
  have x6 := cell_of_heap hx1 6
  have x7 := cell_of_heap hx1 7
  have x8 := cell_of_heap hx1 8
  have x9 := cell_of_heap hx1 9
  have x10 := cell_of_heap hx1 10
  have x11 := cell_of_heap hx1 11
  have x12 := cell_of_heap hx1 12
  have x13 := cell_of_heap hx1 13
  simp at x0 x1 x2 x3 x4 x5 x6 x7 x8 x9 x10 x11 x12 x13
  have HX1 := Lib.hid hx1
  have HW1 := Lib.hid hW1; have HX := Lib.hid hX; have HB1 := Lib.hid hb1
  obtain ⟨V, hV⟩ : ∃ V, (scaleR j.need j.tasks).1 = V := ⟨_, rfl⟩
  rw [hV, h0, errA0] at hc
  have HC := Lib.hid hc
  have hq0 := fun (W : World) => jwithin_c j.id 1 999 W
  rw [k0] at hq0
  have HQ0 := Lib.hid hq0
  clear hq0 k0
  have hq1 := fun (W : World) => jwithin_c j.tenant 1 999 W
  rw [k1] at hq1
  have HQ1 := Lib.hid hq1
  clear hq1 k1
  have hq2 := fun (W : World) => jwithin_c j.cell 1 4 W
  rw [k2] at hq2
  have HQ2 := Lib.hid hq2
  clear hq2 k2
  have hq3 := fun (W : World) => jwithin_c j.band 0 2 W
  rw [k3] at hq3
  have HQ3 := Lib.hid hq3
  clear hq3 k3
  have hq4 := fun (W : World) => jwithin_c j.tasks 1 8 W
  rw [k4] at hq4
  have HQ4 := Lib.hid hq4
  clear hq4 k4
  clear hs hX hW1 hb1 hx1 hc hV h0
  go_enter Tryd.func21, Tryd.ntmps21
  go_upto_region 1 with fail
  rw [HW1.out, HX.out]
  go_wp2_with fail
  refine HC.out.mono ?_
  rintro e w2 ⟨rfl, hb2⟩
  have hx2 := (hb2.block X (lt_of_row HX1.out)).trans HX1.out
  have HB2 := Lib.hid hb2
  clear hb2 x0 x1 x2 x3 x4 x5 x6 x7 x8 x9 x10 x11 x12 x13
  obtain ⟨W3, hW3⟩ : ∃ W3, w2.alloc (.cells #[.int .i64 V.a, .int .i64 V.b, .int .i64 V.c, .int .i64 V.d] 31) = W3 := ⟨_, rfl⟩
  have hb3 : Below w2.heap.size w2 W3 := by rw [← hW3]; exact (Below.refl _ _).alloc (Nat.le_refl _) _
  have hx3 := (hb3.block X (lt_of_row hx2)).trans hx2
  have x0 := cell_of_heap hx3 0
  have x1 := cell_of_heap hx3 1
  have x2 := cell_of_heap hx3 2
  have x3 := cell_of_heap hx3 3
  have x4 := cell_of_heap hx3 4
  have x9 := cell_of_heap hx3 9
  have x10 := cell_of_heap hx3 10
  have x11 := cell_of_heap hx3 11
  have x12 := cell_of_heap hx3 12
  have x13 := cell_of_heap hx3 13
  simp at x0 x1 x2 x3 x4 x9 x10 x11 x12 x13
  have HB3 := Lib.hid hb3
  have HW3 := Lib.hid hW3
  clear hb3 hx2 hx3 hW3
  go_upto_region 2 with fail
  rw [HW3.out]
  go_wp2_with (first | (go_at_call 48; (with_reducible refine (HQ0.out _).mono ?_); rintro e wx ⟨rfl, rfl⟩) | (go_at_call 48; (with_reducible refine (HQ1.out _).mono ?_); rintro e wx ⟨rfl, rfl⟩) | (go_at_call 48; (with_reducible refine (HQ2.out _).mono ?_); rintro e wx ⟨rfl, rfl⟩) | (go_at_call 48; (with_reducible refine (HQ3.out _).mono ?_); rintro e wx ⟨rfl, rfl⟩) | (go_at_call 48; (with_reducible refine (HQ4.out _).mono ?_); rintro e wx ⟨rfl, rfl⟩) | fail)
  go_ret
  exact ⟨rfl, (HB1.out.trans (HB2.out.mono HB1.out.size)).trans (HB3.out.mono (HB1.out.trans (HB2.out.mono HB1.out.size)).size)⟩
set_option maxRecDepth 100000 in
set_option maxHeartbeats 6400000 in
theorem jgood_n5 (s : Nat → Addr) (j : JR) (w : World) (hs : Sent s w) (h0 : (scaleR j.need j.tasks).2 = 0) (k0 : inB j.id 1 999 = true) (k1 : inB j.tenant 1 999 = true) (k2 : inB j.cell 1 4 = true) (k3 : inB j.band 0 2 = true) (k4 : inB j.tasks 1 8 = true) (k5 : inB j.first 0 1073741824 = false) :
    Calls Tryd.prog 21 #[.agg #[.int .i64 j.id, .int .i64 j.tenant, .int .i64 j.cell, .int .i64 j.band, .int .i64 j.tasks, .int .i64 j.need.a, .int .i64 j.need.b, .int .i64 j.need.c, .int .i64 j.need.d, .int .i64 j.first, .int .i64 j.windows, .int .i64 j.budget, .bool j.env, .int .i64 j.set]] w fun e w' => e = .returned (.bool false) ∧ Below w.heap.size w w' := by
  obtain ⟨X, hX⟩ : ∃ X, w.heap.size = X := ⟨_, rfl⟩
  obtain ⟨W1, hW1⟩ : ∃ W1, w.alloc (.cells #[.int .i64 j.id, .int .i64 j.tenant, .int .i64 j.cell, .int .i64 j.band, .int .i64 j.tasks, .int .i64 j.need.a, .int .i64 j.need.b, .int .i64 j.need.c, .int .i64 j.need.d, .int .i64 j.first, .int .i64 j.windows, .int .i64 j.budget, .bool j.env, .int .i64 j.set] 33) = W1 := ⟨_, rfl⟩
  have hb1 : Below w.heap.size w W1 := by rw [← hW1]; exact (Below.refl _ _).alloc (Nat.le_refl _) _
  have hx1 : W1.heap[X]? = some (.cells #[.int .i64 j.id, .int .i64 j.tenant, .int .i64 j.cell, .int .i64 j.band, .int .i64 j.tasks, .int .i64 j.need.a, .int .i64 j.need.b, .int .i64 j.need.c, .int .i64 j.need.d, .int .i64 j.first, .int .i64 j.windows, .int .i64 j.budget, .bool j.env, .int .i64 j.set] 33 (0, 0)) := by rw [← hW1, ← hX]; exact heap_alloc_new _ _
  have hc := jtotal_c s j W1 (hs.below hb1 (Nat.le_refl _))
  have x0 := cell_of_heap hx1 0
  have x1 := cell_of_heap hx1 1
  have x2 := cell_of_heap hx1 2
  have x3 := cell_of_heap hx1 3
  have x4 := cell_of_heap hx1 4
  have x5 := cell_of_heap hx1 5
  have x6 := cell_of_heap hx1 6
  have x7 := cell_of_heap hx1 7
  have x8 := cell_of_heap hx1 8
  have x9 := cell_of_heap hx1 9
  have x10 := cell_of_heap hx1 10
  have x11 := cell_of_heap hx1 11
  have x12 := cell_of_heap hx1 12
  have x13 := cell_of_heap hx1 13
  simp at x0 x1 x2 x3 x4 x5 x6 x7 x8 x9 x10 x11 x12 x13
  have HX1 := Lib.hid hx1
  have HW1 := Lib.hid hW1; have HX := Lib.hid hX; have HB1 := Lib.hid hb1
  obtain ⟨V, hV⟩ : ∃ V, (scaleR j.need j.tasks).1 = V := ⟨_, rfl⟩
  rw [hV, h0, errA0] at hc
  have HC := Lib.hid hc
  have hq0 := fun (W : World) => jwithin_c j.id 1 999 W
  rw [k0] at hq0
  have HQ0 := Lib.hid hq0
  clear hq0 k0
  have hq1 := fun (W : World) => jwithin_c j.tenant 1 999 W
  rw [k1] at hq1
  have HQ1 := Lib.hid hq1
  clear hq1 k1
  have hq2 := fun (W : World) => jwithin_c j.cell 1 4 W
  rw [k2] at hq2
  have HQ2 := Lib.hid hq2
  clear hq2 k2
  have hq3 := fun (W : World) => jwithin_c j.band 0 2 W
  rw [k3] at hq3
  have HQ3 := Lib.hid hq3
  clear hq3 k3
  have hq4 := fun (W : World) => jwithin_c j.tasks 1 8 W
  rw [k4] at hq4
  have HQ4 := Lib.hid hq4
  clear hq4 k4
  have hq5 := fun (W : World) => jwithin_c j.first 0 1073741824 W
  rw [k5] at hq5
  have HQ5 := Lib.hid hq5
  clear hq5 k5
  clear hs hX hW1 hb1 hx1 hc hV h0
  go_enter Tryd.func21, Tryd.ntmps21
  go_upto_region 1 with fail
  rw [HW1.out, HX.out]
  go_wp2_with fail
  refine HC.out.mono ?_
  rintro e w2 ⟨rfl, hb2⟩
  have hx2 := (hb2.block X (lt_of_row HX1.out)).trans HX1.out
  have HB2 := Lib.hid hb2
  clear hb2 x0 x1 x2 x3 x4 x5 x6 x7 x8 x9 x10 x11 x12 x13
  obtain ⟨W3, hW3⟩ : ∃ W3, w2.alloc (.cells #[.int .i64 V.a, .int .i64 V.b, .int .i64 V.c, .int .i64 V.d] 31) = W3 := ⟨_, rfl⟩
  have hb3 : Below w2.heap.size w2 W3 := by rw [← hW3]; exact (Below.refl _ _).alloc (Nat.le_refl _) _
  have hx3 := (hb3.block X (lt_of_row hx2)).trans hx2
  have x0 := cell_of_heap hx3 0
  have x1 := cell_of_heap hx3 1
  have x2 := cell_of_heap hx3 2
  have x3 := cell_of_heap hx3 3
  have x4 := cell_of_heap hx3 4
  have x9 := cell_of_heap hx3 9
  have x10 := cell_of_heap hx3 10
  have x11 := cell_of_heap hx3 11
  have x12 := cell_of_heap hx3 12
  have x13 := cell_of_heap hx3 13
  simp at x0 x1 x2 x3 x4 x9 x10 x11 x12 x13
  have HB3 := Lib.hid hb3
  have HW3 := Lib.hid hW3
  clear hb3 hx2 hx3 hW3
  go_upto_region 2 with fail
  rw [HW3.out]
  go_wp2_with (first | (go_at_call 48; (with_reducible refine (HQ0.out _).mono ?_); rintro e wx ⟨rfl, rfl⟩) | (go_at_call 48; (with_reducible refine (HQ1.out _).mono ?_); rintro e wx ⟨rfl, rfl⟩) | (go_at_call 48; (with_reducible refine (HQ2.out _).mono ?_); rintro e wx ⟨rfl, rfl⟩) | (go_at_call 48; (with_reducible refine (HQ3.out _).mono ?_); rintro e wx ⟨rfl, rfl⟩) | (go_at_call 48; (with_reducible refine (HQ4.out _).mono ?_); rintro e wx ⟨rfl, rfl⟩) | (go_at_call 48; (with_reducible refine (HQ5.out _).mono ?_); rintro e wx ⟨rfl, rfl⟩) | fail)
  go_ret
  exact ⟨rfl, (HB1.out.trans (HB2.out.mono HB1.out.size)).trans (HB3.out.mono (HB1.out.trans (HB2.out.mono HB1.out.size)).size)⟩
set_option maxRecDepth 100000 in
set_option maxHeartbeats 6400000 in
theorem jgood_n6 (s : Nat → Addr) (j : JR) (w : World) (hs : Sent s w) (h0 : (scaleR j.need j.tasks).2 = 0) (k0 : inB j.id 1 999 = true) (k1 : inB j.tenant 1 999 = true) (k2 : inB j.cell 1 4 = true) (k3 : inB j.band 0 2 = true) (k4 : inB j.tasks 1 8 = true) (k5 : inB j.first 0 1073741824 = true) (k6 : inB j.windows 1 8 = false) :
    Calls Tryd.prog 21 #[.agg #[.int .i64 j.id, .int .i64 j.tenant, .int .i64 j.cell, .int .i64 j.band, .int .i64 j.tasks, .int .i64 j.need.a, .int .i64 j.need.b, .int .i64 j.need.c, .int .i64 j.need.d, .int .i64 j.first, .int .i64 j.windows, .int .i64 j.budget, .bool j.env, .int .i64 j.set]] w fun e w' => e = .returned (.bool false) ∧ Below w.heap.size w w' := by
  obtain ⟨X, hX⟩ : ∃ X, w.heap.size = X := ⟨_, rfl⟩
  obtain ⟨W1, hW1⟩ : ∃ W1, w.alloc (.cells #[.int .i64 j.id, .int .i64 j.tenant, .int .i64 j.cell, .int .i64 j.band, .int .i64 j.tasks, .int .i64 j.need.a, .int .i64 j.need.b, .int .i64 j.need.c, .int .i64 j.need.d, .int .i64 j.first, .int .i64 j.windows, .int .i64 j.budget, .bool j.env, .int .i64 j.set] 33) = W1 := ⟨_, rfl⟩
  have hb1 : Below w.heap.size w W1 := by rw [← hW1]; exact (Below.refl _ _).alloc (Nat.le_refl _) _
  have hx1 : W1.heap[X]? = some (.cells #[.int .i64 j.id, .int .i64 j.tenant, .int .i64 j.cell, .int .i64 j.band, .int .i64 j.tasks, .int .i64 j.need.a, .int .i64 j.need.b, .int .i64 j.need.c, .int .i64 j.need.d, .int .i64 j.first, .int .i64 j.windows, .int .i64 j.budget, .bool j.env, .int .i64 j.set] 33 (0, 0)) := by rw [← hW1, ← hX]; exact heap_alloc_new _ _
  have hc := jtotal_c s j W1 (hs.below hb1 (Nat.le_refl _))
  have x0 := cell_of_heap hx1 0
  have x1 := cell_of_heap hx1 1
  have x2 := cell_of_heap hx1 2
  have x3 := cell_of_heap hx1 3
  have x4 := cell_of_heap hx1 4
  have x5 := cell_of_heap hx1 5
  have x6 := cell_of_heap hx1 6
  have x7 := cell_of_heap hx1 7
  have x8 := cell_of_heap hx1 8
  have x9 := cell_of_heap hx1 9
  have x10 := cell_of_heap hx1 10
  have x11 := cell_of_heap hx1 11
  have x12 := cell_of_heap hx1 12
  have x13 := cell_of_heap hx1 13
  simp at x0 x1 x2 x3 x4 x5 x6 x7 x8 x9 x10 x11 x12 x13
  have HX1 := Lib.hid hx1
  have HW1 := Lib.hid hW1; have HX := Lib.hid hX; have HB1 := Lib.hid hb1
  obtain ⟨V, hV⟩ : ∃ V, (scaleR j.need j.tasks).1 = V := ⟨_, rfl⟩
  rw [hV, h0, errA0] at hc
  have HC := Lib.hid hc
  have hq0 := fun (W : World) => jwithin_c j.id 1 999 W
  rw [k0] at hq0
  have HQ0 := Lib.hid hq0
  clear hq0 k0
  have hq1 := fun (W : World) => jwithin_c j.tenant 1 999 W
  rw [k1] at hq1
  have HQ1 := Lib.hid hq1
  clear hq1 k1
  have hq2 := fun (W : World) => jwithin_c j.cell 1 4 W
  rw [k2] at hq2
  have HQ2 := Lib.hid hq2
  clear hq2 k2
  have hq3 := fun (W : World) => jwithin_c j.band 0 2 W
  rw [k3] at hq3
  have HQ3 := Lib.hid hq3
  clear hq3 k3
  have hq4 := fun (W : World) => jwithin_c j.tasks 1 8 W
  rw [k4] at hq4
  have HQ4 := Lib.hid hq4
  clear hq4 k4
  have hq5 := fun (W : World) => jwithin_c j.first 0 1073741824 W
  rw [k5] at hq5
  have HQ5 := Lib.hid hq5
  clear hq5 k5
  have hq6 := fun (W : World) => jwithin_c j.windows 1 8 W
  rw [k6] at hq6
  have HQ6 := Lib.hid hq6
  clear hq6 k6
  clear hs hX hW1 hb1 hx1 hc hV h0
  go_enter Tryd.func21, Tryd.ntmps21
  go_upto_region 1 with fail
  rw [HW1.out, HX.out]
  go_wp2_with fail
  refine HC.out.mono ?_
  rintro e w2 ⟨rfl, hb2⟩
  have hx2 := (hb2.block X (lt_of_row HX1.out)).trans HX1.out
  have HB2 := Lib.hid hb2
  clear hb2 x0 x1 x2 x3 x4 x5 x6 x7 x8 x9 x10 x11 x12 x13
  obtain ⟨W3, hW3⟩ : ∃ W3, w2.alloc (.cells #[.int .i64 V.a, .int .i64 V.b, .int .i64 V.c, .int .i64 V.d] 31) = W3 := ⟨_, rfl⟩
  have hb3 : Below w2.heap.size w2 W3 := by rw [← hW3]; exact (Below.refl _ _).alloc (Nat.le_refl _) _
  have hx3 := (hb3.block X (lt_of_row hx2)).trans hx2
  have x0 := cell_of_heap hx3 0
  have x1 := cell_of_heap hx3 1
  have x2 := cell_of_heap hx3 2
  have x3 := cell_of_heap hx3 3
  have x4 := cell_of_heap hx3 4
  have x9 := cell_of_heap hx3 9
  have x10 := cell_of_heap hx3 10
  have x11 := cell_of_heap hx3 11
  have x12 := cell_of_heap hx3 12
  have x13 := cell_of_heap hx3 13
  simp at x0 x1 x2 x3 x4 x9 x10 x11 x12 x13
  have HB3 := Lib.hid hb3
  have HW3 := Lib.hid hW3
  clear hb3 hx2 hx3 hW3
  go_upto_region 2 with fail
  rw [HW3.out]
  go_wp2_with (first | (go_at_call 48; (with_reducible refine (HQ0.out _).mono ?_); rintro e wx ⟨rfl, rfl⟩) | (go_at_call 48; (with_reducible refine (HQ1.out _).mono ?_); rintro e wx ⟨rfl, rfl⟩) | (go_at_call 48; (with_reducible refine (HQ2.out _).mono ?_); rintro e wx ⟨rfl, rfl⟩) | (go_at_call 48; (with_reducible refine (HQ3.out _).mono ?_); rintro e wx ⟨rfl, rfl⟩) | (go_at_call 48; (with_reducible refine (HQ4.out _).mono ?_); rintro e wx ⟨rfl, rfl⟩) | (go_at_call 48; (with_reducible refine (HQ5.out _).mono ?_); rintro e wx ⟨rfl, rfl⟩) | (go_at_call 48; (with_reducible refine (HQ6.out _).mono ?_); rintro e wx ⟨rfl, rfl⟩) | fail)
  go_ret
  exact ⟨rfl, (HB1.out.trans (HB2.out.mono HB1.out.size)).trans (HB3.out.mono (HB1.out.trans (HB2.out.mono HB1.out.size)).size)⟩
set_option maxRecDepth 100000 in
set_option maxHeartbeats 6400000 in
theorem jgood_n7 (s : Nat → Addr) (j : JR) (w : World) (hs : Sent s w) (h0 : (scaleR j.need j.tasks).2 = 0) (k0 : inB j.id 1 999 = true) (k1 : inB j.tenant 1 999 = true) (k2 : inB j.cell 1 4 = true) (k3 : inB j.band 0 2 = true) (k4 : inB j.tasks 1 8 = true) (k5 : inB j.first 0 1073741824 = true) (k6 : inB j.windows 1 8 = true) (k7 : inB j.budget 0 100 = false) :
    Calls Tryd.prog 21 #[.agg #[.int .i64 j.id, .int .i64 j.tenant, .int .i64 j.cell, .int .i64 j.band, .int .i64 j.tasks, .int .i64 j.need.a, .int .i64 j.need.b, .int .i64 j.need.c, .int .i64 j.need.d, .int .i64 j.first, .int .i64 j.windows, .int .i64 j.budget, .bool j.env, .int .i64 j.set]] w fun e w' => e = .returned (.bool false) ∧ Below w.heap.size w w' := by
  obtain ⟨X, hX⟩ : ∃ X, w.heap.size = X := ⟨_, rfl⟩
  obtain ⟨W1, hW1⟩ : ∃ W1, w.alloc (.cells #[.int .i64 j.id, .int .i64 j.tenant, .int .i64 j.cell, .int .i64 j.band, .int .i64 j.tasks, .int .i64 j.need.a, .int .i64 j.need.b, .int .i64 j.need.c, .int .i64 j.need.d, .int .i64 j.first, .int .i64 j.windows, .int .i64 j.budget, .bool j.env, .int .i64 j.set] 33) = W1 := ⟨_, rfl⟩
  have hb1 : Below w.heap.size w W1 := by rw [← hW1]; exact (Below.refl _ _).alloc (Nat.le_refl _) _
  have hx1 : W1.heap[X]? = some (.cells #[.int .i64 j.id, .int .i64 j.tenant, .int .i64 j.cell, .int .i64 j.band, .int .i64 j.tasks, .int .i64 j.need.a, .int .i64 j.need.b, .int .i64 j.need.c, .int .i64 j.need.d, .int .i64 j.first, .int .i64 j.windows, .int .i64 j.budget, .bool j.env, .int .i64 j.set] 33 (0, 0)) := by rw [← hW1, ← hX]; exact heap_alloc_new _ _
  have hc := jtotal_c s j W1 (hs.below hb1 (Nat.le_refl _))
  have x0 := cell_of_heap hx1 0
  have x1 := cell_of_heap hx1 1
  have x2 := cell_of_heap hx1 2
  have x3 := cell_of_heap hx1 3
  have x4 := cell_of_heap hx1 4
  have x5 := cell_of_heap hx1 5
  have x6 := cell_of_heap hx1 6
  have x7 := cell_of_heap hx1 7
  have x8 := cell_of_heap hx1 8
  have x9 := cell_of_heap hx1 9
  have x10 := cell_of_heap hx1 10
  have x11 := cell_of_heap hx1 11
  have x12 := cell_of_heap hx1 12
  have x13 := cell_of_heap hx1 13
  simp at x0 x1 x2 x3 x4 x5 x6 x7 x8 x9 x10 x11 x12 x13
  have HX1 := Lib.hid hx1
  have HW1 := Lib.hid hW1; have HX := Lib.hid hX; have HB1 := Lib.hid hb1
  obtain ⟨V, hV⟩ : ∃ V, (scaleR j.need j.tasks).1 = V := ⟨_, rfl⟩
  rw [hV, h0, errA0] at hc
  have HC := Lib.hid hc
  have hq0 := fun (W : World) => jwithin_c j.id 1 999 W
  rw [k0] at hq0
  have HQ0 := Lib.hid hq0
  clear hq0 k0
  have hq1 := fun (W : World) => jwithin_c j.tenant 1 999 W
  rw [k1] at hq1
  have HQ1 := Lib.hid hq1
  clear hq1 k1
  have hq2 := fun (W : World) => jwithin_c j.cell 1 4 W
  rw [k2] at hq2
  have HQ2 := Lib.hid hq2
  clear hq2 k2
  have hq3 := fun (W : World) => jwithin_c j.band 0 2 W
  rw [k3] at hq3
  have HQ3 := Lib.hid hq3
  clear hq3 k3
  have hq4 := fun (W : World) => jwithin_c j.tasks 1 8 W
  rw [k4] at hq4
  have HQ4 := Lib.hid hq4
  clear hq4 k4
  have hq5 := fun (W : World) => jwithin_c j.first 0 1073741824 W
  rw [k5] at hq5
  have HQ5 := Lib.hid hq5
  clear hq5 k5
  have hq6 := fun (W : World) => jwithin_c j.windows 1 8 W
  rw [k6] at hq6
  have HQ6 := Lib.hid hq6
  clear hq6 k6
  have hq7 := fun (W : World) => jwithin_c j.budget 0 100 W
  rw [k7] at hq7
  have HQ7 := Lib.hid hq7
  clear hq7 k7
  clear hs hX hW1 hb1 hx1 hc hV h0
  go_enter Tryd.func21, Tryd.ntmps21
  go_upto_region 1 with fail
  rw [HW1.out, HX.out]
  go_wp2_with fail
  refine HC.out.mono ?_
  rintro e w2 ⟨rfl, hb2⟩
  have hx2 := (hb2.block X (lt_of_row HX1.out)).trans HX1.out
  have HB2 := Lib.hid hb2
  clear hb2 x0 x1 x2 x3 x4 x5 x6 x7 x8 x9 x10 x11 x12 x13
  obtain ⟨W3, hW3⟩ : ∃ W3, w2.alloc (.cells #[.int .i64 V.a, .int .i64 V.b, .int .i64 V.c, .int .i64 V.d] 31) = W3 := ⟨_, rfl⟩
  have hb3 : Below w2.heap.size w2 W3 := by rw [← hW3]; exact (Below.refl _ _).alloc (Nat.le_refl _) _
  have hx3 := (hb3.block X (lt_of_row hx2)).trans hx2
  have x0 := cell_of_heap hx3 0
  have x1 := cell_of_heap hx3 1
  have x2 := cell_of_heap hx3 2
  have x3 := cell_of_heap hx3 3
  have x4 := cell_of_heap hx3 4
  have x9 := cell_of_heap hx3 9
  have x10 := cell_of_heap hx3 10
  have x11 := cell_of_heap hx3 11
  have x12 := cell_of_heap hx3 12
  have x13 := cell_of_heap hx3 13
  simp at x0 x1 x2 x3 x4 x9 x10 x11 x12 x13
  have HB3 := Lib.hid hb3
  have HW3 := Lib.hid hW3
  clear hb3 hx2 hx3 hW3
  go_upto_region 2 with fail
  rw [HW3.out]
  go_wp2_with (first | (go_at_call 48; (with_reducible refine (HQ0.out _).mono ?_); rintro e wx ⟨rfl, rfl⟩) | (go_at_call 48; (with_reducible refine (HQ1.out _).mono ?_); rintro e wx ⟨rfl, rfl⟩) | (go_at_call 48; (with_reducible refine (HQ2.out _).mono ?_); rintro e wx ⟨rfl, rfl⟩) | (go_at_call 48; (with_reducible refine (HQ3.out _).mono ?_); rintro e wx ⟨rfl, rfl⟩) | (go_at_call 48; (with_reducible refine (HQ4.out _).mono ?_); rintro e wx ⟨rfl, rfl⟩) | (go_at_call 48; (with_reducible refine (HQ5.out _).mono ?_); rintro e wx ⟨rfl, rfl⟩) | (go_at_call 48; (with_reducible refine (HQ6.out _).mono ?_); rintro e wx ⟨rfl, rfl⟩) | (go_at_call 48; (with_reducible refine (HQ7.out _).mono ?_); rintro e wx ⟨rfl, rfl⟩) | fail)
  go_ret
  exact ⟨rfl, (HB1.out.trans (HB2.out.mono HB1.out.size)).trans (HB3.out.mono (HB1.out.trans (HB2.out.mono HB1.out.size)).size)⟩
set_option maxRecDepth 100000 in
set_option maxHeartbeats 6400000 in
theorem jgood_set0 (s : Nat → Addr) (j : JR) (w : World) (hs : Sent s w) (h0 : (scaleR j.need j.tasks).2 = 0) (k0 : inB j.id 1 999 = true) (k1 : inB j.tenant 1 999 = true) (k2 : inB j.cell 1 4 = true) (k3 : inB j.band 0 2 = true) (k4 : inB j.tasks 1 8 = true) (k5 : inB j.first 0 1073741824 = true) (k6 : inB j.windows 1 8 = true) (k7 : inB j.budget 0 100 = true) (z : j.set = 0) :
    Calls Tryd.prog 21 #[.agg #[.int .i64 j.id, .int .i64 j.tenant, .int .i64 j.cell, .int .i64 j.band, .int .i64 j.tasks, .int .i64 j.need.a, .int .i64 j.need.b, .int .i64 j.need.c, .int .i64 j.need.d, .int .i64 j.first, .int .i64 j.windows, .int .i64 j.budget, .bool j.env, .int .i64 j.set]] w fun e w' => e = .returned (.bool true) ∧ Below w.heap.size w w' := by
  obtain ⟨X, hX⟩ : ∃ X, w.heap.size = X := ⟨_, rfl⟩
  obtain ⟨W1, hW1⟩ : ∃ W1, w.alloc (.cells #[.int .i64 j.id, .int .i64 j.tenant, .int .i64 j.cell, .int .i64 j.band, .int .i64 j.tasks, .int .i64 j.need.a, .int .i64 j.need.b, .int .i64 j.need.c, .int .i64 j.need.d, .int .i64 j.first, .int .i64 j.windows, .int .i64 j.budget, .bool j.env, .int .i64 j.set] 33) = W1 := ⟨_, rfl⟩
  have hb1 : Below w.heap.size w W1 := by rw [← hW1]; exact (Below.refl _ _).alloc (Nat.le_refl _) _
  have hx1 : W1.heap[X]? = some (.cells #[.int .i64 j.id, .int .i64 j.tenant, .int .i64 j.cell, .int .i64 j.band, .int .i64 j.tasks, .int .i64 j.need.a, .int .i64 j.need.b, .int .i64 j.need.c, .int .i64 j.need.d, .int .i64 j.first, .int .i64 j.windows, .int .i64 j.budget, .bool j.env, .int .i64 j.set] 33 (0, 0)) := by rw [← hW1, ← hX]; exact heap_alloc_new _ _
  have hc := jtotal_c s j W1 (hs.below hb1 (Nat.le_refl _))
  have x0 := cell_of_heap hx1 0
  have x1 := cell_of_heap hx1 1
  have x2 := cell_of_heap hx1 2
  have x3 := cell_of_heap hx1 3
  have x4 := cell_of_heap hx1 4
  have x5 := cell_of_heap hx1 5
  have x6 := cell_of_heap hx1 6
  have x7 := cell_of_heap hx1 7
  have x8 := cell_of_heap hx1 8
  have x9 := cell_of_heap hx1 9
  have x10 := cell_of_heap hx1 10
  have x11 := cell_of_heap hx1 11
  have x12 := cell_of_heap hx1 12
  have x13 := cell_of_heap hx1 13
  simp at x0 x1 x2 x3 x4 x5 x6 x7 x8 x9 x10 x11 x12 x13
  have HX1 := Lib.hid hx1
  have HW1 := Lib.hid hW1; have HX := Lib.hid hX; have HB1 := Lib.hid hb1
  obtain ⟨V, hV⟩ : ∃ V, (scaleR j.need j.tasks).1 = V := ⟨_, rfl⟩
  rw [hV, h0, errA0] at hc
  have HC := Lib.hid hc
  have hq0 := fun (W : World) => jwithin_c j.id 1 999 W
  rw [k0] at hq0
  have HQ0 := Lib.hid hq0
  clear hq0 k0
  have hq1 := fun (W : World) => jwithin_c j.tenant 1 999 W
  rw [k1] at hq1
  have HQ1 := Lib.hid hq1
  clear hq1 k1
  have hq2 := fun (W : World) => jwithin_c j.cell 1 4 W
  rw [k2] at hq2
  have HQ2 := Lib.hid hq2
  clear hq2 k2
  have hq3 := fun (W : World) => jwithin_c j.band 0 2 W
  rw [k3] at hq3
  have HQ3 := Lib.hid hq3
  clear hq3 k3
  have hq4 := fun (W : World) => jwithin_c j.tasks 1 8 W
  rw [k4] at hq4
  have HQ4 := Lib.hid hq4
  clear hq4 k4
  have hq5 := fun (W : World) => jwithin_c j.first 0 1073741824 W
  rw [k5] at hq5
  have HQ5 := Lib.hid hq5
  clear hq5 k5
  have hq6 := fun (W : World) => jwithin_c j.windows 1 8 W
  rw [k6] at hq6
  have HQ6 := Lib.hid hq6
  clear hq6 k6
  have hq7 := fun (W : World) => jwithin_c j.budget 0 100 W
  rw [k7] at hq7
  have HQ7 := Lib.hid hq7
  clear hq7 k7
  have z1 : (j.set == 0) = true := by simpa using z
  clear z
  clear hs hX hW1 hb1 hx1 hc hV h0
  go_enter Tryd.func21, Tryd.ntmps21
  go_upto_region 1 with fail
  rw [HW1.out, HX.out]
  go_wp2_with fail
  refine HC.out.mono ?_
  rintro e w2 ⟨rfl, hb2⟩
  have hx2 := (hb2.block X (lt_of_row HX1.out)).trans HX1.out
  have HB2 := Lib.hid hb2
  clear hb2 x0 x1 x2 x3 x4 x5 x6 x7 x8 x9 x10 x11 x12 x13
  obtain ⟨W3, hW3⟩ : ∃ W3, w2.alloc (.cells #[.int .i64 V.a, .int .i64 V.b, .int .i64 V.c, .int .i64 V.d] 31) = W3 := ⟨_, rfl⟩
  have hb3 : Below w2.heap.size w2 W3 := by rw [← hW3]; exact (Below.refl _ _).alloc (Nat.le_refl _) _
  have hx3 := (hb3.block X (lt_of_row hx2)).trans hx2
  have x0 := cell_of_heap hx3 0
  have x1 := cell_of_heap hx3 1
  have x2 := cell_of_heap hx3 2
  have x3 := cell_of_heap hx3 3
  have x4 := cell_of_heap hx3 4
  have x9 := cell_of_heap hx3 9
  have x10 := cell_of_heap hx3 10
  have x11 := cell_of_heap hx3 11
  have x12 := cell_of_heap hx3 12
  have x13 := cell_of_heap hx3 13
  simp at x0 x1 x2 x3 x4 x9 x10 x11 x12 x13
  have HB3 := Lib.hid hb3
  have HW3 := Lib.hid hW3
  clear hb3 hx2 hx3 hW3
  go_upto_region 2 with fail
  rw [HW3.out]
  go_wp2_with (first | (go_at_call 48; (with_reducible refine (HQ0.out _).mono ?_); rintro e wx ⟨rfl, rfl⟩) | (go_at_call 48; (with_reducible refine (HQ1.out _).mono ?_); rintro e wx ⟨rfl, rfl⟩) | (go_at_call 48; (with_reducible refine (HQ2.out _).mono ?_); rintro e wx ⟨rfl, rfl⟩) | (go_at_call 48; (with_reducible refine (HQ3.out _).mono ?_); rintro e wx ⟨rfl, rfl⟩) | (go_at_call 48; (with_reducible refine (HQ4.out _).mono ?_); rintro e wx ⟨rfl, rfl⟩) | (go_at_call 48; (with_reducible refine (HQ5.out _).mono ?_); rintro e wx ⟨rfl, rfl⟩) | (go_at_call 48; (with_reducible refine (HQ6.out _).mono ?_); rintro e wx ⟨rfl, rfl⟩) | (go_at_call 48; (with_reducible refine (HQ7.out _).mono ?_); rintro e wx ⟨rfl, rfl⟩) | fail)
  go_ret
  exact ⟨rfl, (HB1.out.trans (HB2.out.mono HB1.out.size)).trans (HB3.out.mono (HB1.out.trans (HB2.out.mono HB1.out.size)).size)⟩
set_option maxRecDepth 100000 in
set_option maxHeartbeats 6400000 in
theorem jgood_env (s : Nat → Addr) (j : JR) (w : World) (hs : Sent s w) (h0 : (scaleR j.need j.tasks).2 = 0) (k0 : inB j.id 1 999 = true) (k1 : inB j.tenant 1 999 = true) (k2 : inB j.cell 1 4 = true) (k3 : inB j.band 0 2 = true) (k4 : inB j.tasks 1 8 = true) (k5 : inB j.first 0 1073741824 = true) (k6 : inB j.windows 1 8 = true) (k7 : inB j.budget 0 100 = true) (z : j.set ≠ 0) (y : j.env = true) :
    Calls Tryd.prog 21 #[.agg #[.int .i64 j.id, .int .i64 j.tenant, .int .i64 j.cell, .int .i64 j.band, .int .i64 j.tasks, .int .i64 j.need.a, .int .i64 j.need.b, .int .i64 j.need.c, .int .i64 j.need.d, .int .i64 j.first, .int .i64 j.windows, .int .i64 j.budget, .bool j.env, .int .i64 j.set]] w fun e w' => e = .returned (.bool false) ∧ Below w.heap.size w w' := by
  obtain ⟨X, hX⟩ : ∃ X, w.heap.size = X := ⟨_, rfl⟩
  obtain ⟨W1, hW1⟩ : ∃ W1, w.alloc (.cells #[.int .i64 j.id, .int .i64 j.tenant, .int .i64 j.cell, .int .i64 j.band, .int .i64 j.tasks, .int .i64 j.need.a, .int .i64 j.need.b, .int .i64 j.need.c, .int .i64 j.need.d, .int .i64 j.first, .int .i64 j.windows, .int .i64 j.budget, .bool j.env, .int .i64 j.set] 33) = W1 := ⟨_, rfl⟩
  have hb1 : Below w.heap.size w W1 := by rw [← hW1]; exact (Below.refl _ _).alloc (Nat.le_refl _) _
  have hx1 : W1.heap[X]? = some (.cells #[.int .i64 j.id, .int .i64 j.tenant, .int .i64 j.cell, .int .i64 j.band, .int .i64 j.tasks, .int .i64 j.need.a, .int .i64 j.need.b, .int .i64 j.need.c, .int .i64 j.need.d, .int .i64 j.first, .int .i64 j.windows, .int .i64 j.budget, .bool j.env, .int .i64 j.set] 33 (0, 0)) := by rw [← hW1, ← hX]; exact heap_alloc_new _ _
  have hc := jtotal_c s j W1 (hs.below hb1 (Nat.le_refl _))
  have x0 := cell_of_heap hx1 0
  have x1 := cell_of_heap hx1 1
  have x2 := cell_of_heap hx1 2
  have x3 := cell_of_heap hx1 3
  have x4 := cell_of_heap hx1 4
  have x5 := cell_of_heap hx1 5
  have x6 := cell_of_heap hx1 6
  have x7 := cell_of_heap hx1 7
  have x8 := cell_of_heap hx1 8
  have x9 := cell_of_heap hx1 9
  have x10 := cell_of_heap hx1 10
  have x11 := cell_of_heap hx1 11
  have x12 := cell_of_heap hx1 12
  have x13 := cell_of_heap hx1 13
  simp at x0 x1 x2 x3 x4 x5 x6 x7 x8 x9 x10 x11 x12 x13
  have HX1 := Lib.hid hx1
  have HW1 := Lib.hid hW1; have HX := Lib.hid hX; have HB1 := Lib.hid hb1
  obtain ⟨V, hV⟩ : ∃ V, (scaleR j.need j.tasks).1 = V := ⟨_, rfl⟩
  rw [hV, h0, errA0] at hc
  have HC := Lib.hid hc
  have hq0 := fun (W : World) => jwithin_c j.id 1 999 W
  rw [k0] at hq0
  have HQ0 := Lib.hid hq0
  clear hq0 k0
  have hq1 := fun (W : World) => jwithin_c j.tenant 1 999 W
  rw [k1] at hq1
  have HQ1 := Lib.hid hq1
  clear hq1 k1
  have hq2 := fun (W : World) => jwithin_c j.cell 1 4 W
  rw [k2] at hq2
  have HQ2 := Lib.hid hq2
  clear hq2 k2
  have hq3 := fun (W : World) => jwithin_c j.band 0 2 W
  rw [k3] at hq3
  have HQ3 := Lib.hid hq3
  clear hq3 k3
  have hq4 := fun (W : World) => jwithin_c j.tasks 1 8 W
  rw [k4] at hq4
  have HQ4 := Lib.hid hq4
  clear hq4 k4
  have hq5 := fun (W : World) => jwithin_c j.first 0 1073741824 W
  rw [k5] at hq5
  have HQ5 := Lib.hid hq5
  clear hq5 k5
  have hq6 := fun (W : World) => jwithin_c j.windows 1 8 W
  rw [k6] at hq6
  have HQ6 := Lib.hid hq6
  clear hq6 k6
  have hq7 := fun (W : World) => jwithin_c j.budget 0 100 W
  rw [k7] at hq7
  have HQ7 := Lib.hid hq7
  clear hq7 k7
  have z1 : (j.set == 0) = false := by simpa using z
  have HYE := Lib.hid y
  clear z y
  clear hs hX hW1 hb1 hx1 hc hV h0
  go_enter Tryd.func21, Tryd.ntmps21
  go_upto_region 1 with fail
  rw [HW1.out, HX.out]
  go_wp2_with fail
  refine HC.out.mono ?_
  rintro e w2 ⟨rfl, hb2⟩
  have hx2 := (hb2.block X (lt_of_row HX1.out)).trans HX1.out
  have HB2 := Lib.hid hb2
  clear hb2 x0 x1 x2 x3 x4 x5 x6 x7 x8 x9 x10 x11 x12 x13
  obtain ⟨W3, hW3⟩ : ∃ W3, w2.alloc (.cells #[.int .i64 V.a, .int .i64 V.b, .int .i64 V.c, .int .i64 V.d] 31) = W3 := ⟨_, rfl⟩
  have hb3 : Below w2.heap.size w2 W3 := by rw [← hW3]; exact (Below.refl _ _).alloc (Nat.le_refl _) _
  have hx3 := (hb3.block X (lt_of_row hx2)).trans hx2
  have x0 := cell_of_heap hx3 0
  have x1 := cell_of_heap hx3 1
  have x2 := cell_of_heap hx3 2
  have x3 := cell_of_heap hx3 3
  have x4 := cell_of_heap hx3 4
  have x9 := cell_of_heap hx3 9
  have x10 := cell_of_heap hx3 10
  have x11 := cell_of_heap hx3 11
  have x12 := cell_of_heap hx3 12
  have x13 := cell_of_heap hx3 13
  simp at x0 x1 x2 x3 x4 x9 x10 x11 x12 x13
  have HB3 := Lib.hid hb3
  have HW3 := Lib.hid hW3
  clear hb3 hx2 hx3 hW3
  rw [HYE.out] at x12
  go_upto_region 2 with fail
  rw [HW3.out]
  go_wp2_with (first | (go_at_call 48; (with_reducible refine (HQ0.out _).mono ?_); rintro e wx ⟨rfl, rfl⟩) | (go_at_call 48; (with_reducible refine (HQ1.out _).mono ?_); rintro e wx ⟨rfl, rfl⟩) | (go_at_call 48; (with_reducible refine (HQ2.out _).mono ?_); rintro e wx ⟨rfl, rfl⟩) | (go_at_call 48; (with_reducible refine (HQ3.out _).mono ?_); rintro e wx ⟨rfl, rfl⟩) | (go_at_call 48; (with_reducible refine (HQ4.out _).mono ?_); rintro e wx ⟨rfl, rfl⟩) | (go_at_call 48; (with_reducible refine (HQ5.out _).mono ?_); rintro e wx ⟨rfl, rfl⟩) | (go_at_call 48; (with_reducible refine (HQ6.out _).mono ?_); rintro e wx ⟨rfl, rfl⟩) | (go_at_call 48; (with_reducible refine (HQ7.out _).mono ?_); rintro e wx ⟨rfl, rfl⟩) | fail)
  go_ret
  exact ⟨rfl, (HB1.out.trans (HB2.out.mono HB1.out.size)).trans (HB3.out.mono (HB1.out.trans (HB2.out.mono HB1.out.size)).size)⟩
set_option maxRecDepth 100000 in
set_option maxHeartbeats 6400000 in
theorem jgood_set (s : Nat → Addr) (j : JR) (w : World) (hs : Sent s w) (h0 : (scaleR j.need j.tasks).2 = 0) (k0 : inB j.id 1 999 = true) (k1 : inB j.tenant 1 999 = true) (k2 : inB j.cell 1 4 = true) (k3 : inB j.band 0 2 = true) (k4 : inB j.tasks 1 8 = true) (k5 : inB j.first 0 1073741824 = true) (k6 : inB j.windows 1 8 = true) (k7 : inB j.budget 0 100 = true) (z : j.set ≠ 0) (y : j.env = false) (b : Bool) (k8 : inB j.set 1 999 = b) :
    Calls Tryd.prog 21 #[.agg #[.int .i64 j.id, .int .i64 j.tenant, .int .i64 j.cell, .int .i64 j.band, .int .i64 j.tasks, .int .i64 j.need.a, .int .i64 j.need.b, .int .i64 j.need.c, .int .i64 j.need.d, .int .i64 j.first, .int .i64 j.windows, .int .i64 j.budget, .bool j.env, .int .i64 j.set]] w fun e w' => e = .returned (.bool b) ∧ Below w.heap.size w w' := by
  obtain ⟨X, hX⟩ : ∃ X, w.heap.size = X := ⟨_, rfl⟩
  obtain ⟨W1, hW1⟩ : ∃ W1, w.alloc (.cells #[.int .i64 j.id, .int .i64 j.tenant, .int .i64 j.cell, .int .i64 j.band, .int .i64 j.tasks, .int .i64 j.need.a, .int .i64 j.need.b, .int .i64 j.need.c, .int .i64 j.need.d, .int .i64 j.first, .int .i64 j.windows, .int .i64 j.budget, .bool j.env, .int .i64 j.set] 33) = W1 := ⟨_, rfl⟩
  have hb1 : Below w.heap.size w W1 := by rw [← hW1]; exact (Below.refl _ _).alloc (Nat.le_refl _) _
  have hx1 : W1.heap[X]? = some (.cells #[.int .i64 j.id, .int .i64 j.tenant, .int .i64 j.cell, .int .i64 j.band, .int .i64 j.tasks, .int .i64 j.need.a, .int .i64 j.need.b, .int .i64 j.need.c, .int .i64 j.need.d, .int .i64 j.first, .int .i64 j.windows, .int .i64 j.budget, .bool j.env, .int .i64 j.set] 33 (0, 0)) := by rw [← hW1, ← hX]; exact heap_alloc_new _ _
  have hc := jtotal_c s j W1 (hs.below hb1 (Nat.le_refl _))
  have x0 := cell_of_heap hx1 0
  have x1 := cell_of_heap hx1 1
  have x2 := cell_of_heap hx1 2
  have x3 := cell_of_heap hx1 3
  have x4 := cell_of_heap hx1 4
  have x5 := cell_of_heap hx1 5
  have x6 := cell_of_heap hx1 6
  have x7 := cell_of_heap hx1 7
  have x8 := cell_of_heap hx1 8
  have x9 := cell_of_heap hx1 9
  have x10 := cell_of_heap hx1 10
  have x11 := cell_of_heap hx1 11
  have x12 := cell_of_heap hx1 12
  have x13 := cell_of_heap hx1 13
  simp at x0 x1 x2 x3 x4 x5 x6 x7 x8 x9 x10 x11 x12 x13
  have HX1 := Lib.hid hx1
  have HW1 := Lib.hid hW1; have HX := Lib.hid hX; have HB1 := Lib.hid hb1
  obtain ⟨V, hV⟩ : ∃ V, (scaleR j.need j.tasks).1 = V := ⟨_, rfl⟩
  rw [hV, h0, errA0] at hc
  have HC := Lib.hid hc
  have hq0 := fun (W : World) => jwithin_c j.id 1 999 W
  rw [k0] at hq0
  have HQ0 := Lib.hid hq0
  clear hq0 k0
  have hq1 := fun (W : World) => jwithin_c j.tenant 1 999 W
  rw [k1] at hq1
  have HQ1 := Lib.hid hq1
  clear hq1 k1
  have hq2 := fun (W : World) => jwithin_c j.cell 1 4 W
  rw [k2] at hq2
  have HQ2 := Lib.hid hq2
  clear hq2 k2
  have hq3 := fun (W : World) => jwithin_c j.band 0 2 W
  rw [k3] at hq3
  have HQ3 := Lib.hid hq3
  clear hq3 k3
  have hq4 := fun (W : World) => jwithin_c j.tasks 1 8 W
  rw [k4] at hq4
  have HQ4 := Lib.hid hq4
  clear hq4 k4
  have hq5 := fun (W : World) => jwithin_c j.first 0 1073741824 W
  rw [k5] at hq5
  have HQ5 := Lib.hid hq5
  clear hq5 k5
  have hq6 := fun (W : World) => jwithin_c j.windows 1 8 W
  rw [k6] at hq6
  have HQ6 := Lib.hid hq6
  clear hq6 k6
  have hq7 := fun (W : World) => jwithin_c j.budget 0 100 W
  rw [k7] at hq7
  have HQ7 := Lib.hid hq7
  clear hq7 k7
  have z1 : (j.set == 0) = false := by simpa using z
  have HYE := Lib.hid y
  clear z y
  have hq8 := fun W => jwithin_c j.set 1 999 W
  rw [k8] at hq8
  have HQ8 := Lib.hid hq8
  clear hq8 k8
  clear hs hX hW1 hb1 hx1 hc hV h0
  go_enter Tryd.func21, Tryd.ntmps21
  go_upto_region 1 with fail
  rw [HW1.out, HX.out]
  go_wp2_with fail
  refine HC.out.mono ?_
  rintro e w2 ⟨rfl, hb2⟩
  have hx2 := (hb2.block X (lt_of_row HX1.out)).trans HX1.out
  have HB2 := Lib.hid hb2
  clear hb2 x0 x1 x2 x3 x4 x5 x6 x7 x8 x9 x10 x11 x12 x13
  obtain ⟨W3, hW3⟩ : ∃ W3, w2.alloc (.cells #[.int .i64 V.a, .int .i64 V.b, .int .i64 V.c, .int .i64 V.d] 31) = W3 := ⟨_, rfl⟩
  have hb3 : Below w2.heap.size w2 W3 := by rw [← hW3]; exact (Below.refl _ _).alloc (Nat.le_refl _) _
  have hx3 := (hb3.block X (lt_of_row hx2)).trans hx2
  have x0 := cell_of_heap hx3 0
  have x1 := cell_of_heap hx3 1
  have x2 := cell_of_heap hx3 2
  have x3 := cell_of_heap hx3 3
  have x4 := cell_of_heap hx3 4
  have x9 := cell_of_heap hx3 9
  have x10 := cell_of_heap hx3 10
  have x11 := cell_of_heap hx3 11
  have x12 := cell_of_heap hx3 12
  have x13 := cell_of_heap hx3 13
  simp at x0 x1 x2 x3 x4 x9 x10 x11 x12 x13
  have HB3 := Lib.hid hb3
  have HW3 := Lib.hid hW3
  clear hb3 hx2 hx3 hW3
  rw [HYE.out] at x12
  go_upto_region 2 with fail
  rw [HW3.out]
  go_wp2_with (first | (go_at_call 48; (with_reducible refine (HQ0.out _).mono ?_); rintro e wx ⟨rfl, rfl⟩) | (go_at_call 48; (with_reducible refine (HQ1.out _).mono ?_); rintro e wx ⟨rfl, rfl⟩) | (go_at_call 48; (with_reducible refine (HQ2.out _).mono ?_); rintro e wx ⟨rfl, rfl⟩) | (go_at_call 48; (with_reducible refine (HQ3.out _).mono ?_); rintro e wx ⟨rfl, rfl⟩) | (go_at_call 48; (with_reducible refine (HQ4.out _).mono ?_); rintro e wx ⟨rfl, rfl⟩) | (go_at_call 48; (with_reducible refine (HQ5.out _).mono ?_); rintro e wx ⟨rfl, rfl⟩) | (go_at_call 48; (with_reducible refine (HQ6.out _).mono ?_); rintro e wx ⟨rfl, rfl⟩) | (go_at_call 48; (with_reducible refine (HQ7.out _).mono ?_); rintro e wx ⟨rfl, rfl⟩) | (go_at_call 48; (with_reducible refine (HQ8.out _).mono ?_); rintro e wx ⟨rfl, rfl⟩) | fail)
  go_ret
  exact ⟨rfl, (HB1.out.trans (HB2.out.mono HB1.out.size)).trans (HB3.out.mono (HB1.out.trans (HB2.out.mono HB1.out.size)).size)⟩
/-- job.Good. -/
theorem jgood_c (s : Nat → Addr) (j : JR) (w : World) (hs : Sent s w) : Calls Tryd.prog 21 #[.agg #[.int .i64 j.id, .int .i64 j.tenant, .int .i64 j.cell, .int .i64 j.band, .int .i64 j.tasks, .int .i64 j.need.a, .int .i64 j.need.b, .int .i64 j.need.c, .int .i64 j.need.d, .int .i64 j.first, .int .i64 j.windows, .int .i64 j.budget, .bool j.env, .int .i64 j.set]] w fun e w' => e = .returned (.bool (goodJ j)) ∧ Below w.heap.size w w' := by
  unfold goodJ
  by_cases h0 : (scaleR j.need j.tasks).2 = 0
  · rw [decide_eq_true h0, Bool.true_and]
    cases k0 : inB j.id 1 999 with
    | false => simp only [Bool.false_and]; exact jgood_n0 s j w hs h0 k0
    | true =>
      cases k1 : inB j.tenant 1 999 with
      | false => simp only [Bool.false_and, Bool.and_false]; exact jgood_n1 s j w hs h0 k0 k1
      | true =>
        cases k2 : inB j.cell 1 4 with
        | false => simp only [Bool.false_and, Bool.and_false, Bool.and_true]; exact jgood_n2 s j w hs h0 k0 k1 k2
        | true =>
          cases k3 : inB j.band 0 2 with
          | false => simp only [Bool.false_and, Bool.and_false, Bool.and_true]; exact jgood_n3 s j w hs h0 k0 k1 k2 k3
          | true =>
            cases k4 : inB j.tasks 1 8 with
            | false => simp only [Bool.false_and, Bool.and_false, Bool.and_true]; exact jgood_n4 s j w hs h0 k0 k1 k2 k3 k4
            | true =>
              cases k5 : inB j.first 0 1073741824 with
              | false => simp only [Bool.false_and, Bool.and_false, Bool.and_true]; exact jgood_n5 s j w hs h0 k0 k1 k2 k3 k4 k5
              | true =>
                cases k6 : inB j.windows 1 8 with
                | false => simp only [Bool.false_and, Bool.and_false, Bool.and_true]; exact jgood_n6 s j w hs h0 k0 k1 k2 k3 k4 k5 k6
                | true =>
                  cases k7 : inB j.budget 0 100 with
                  | false => simp only [Bool.false_and, Bool.and_false, Bool.and_true]; exact jgood_n7 s j w hs h0 k0 k1 k2 k3 k4 k5 k6 k7
                  | true =>
                    simp only [Bool.true_and]
                    by_cases z : j.set = 0
                    · rw [decide_eq_true z, Bool.true_or]; exact jgood_set0 s j w hs h0 k0 k1 k2 k3 k4 k5 k6 k7 z
                    · rw [decide_eq_false z, Bool.false_or]
                      cases y : j.env with
                      | true => rw [Bool.not_true, Bool.false_and]; have := jgood_env s j w hs h0 k0 k1 k2 k3 k4 k5 k6 k7 z y; rw [y] at this; exact this
                      | false => rw [Bool.not_false, Bool.true_and]; have := jgood_set s j w hs h0 k0 k1 k2 k3 k4 k5 k6 k7 z y _ rfl; rw [y] at this; exact this
  · rw [decide_eq_false h0]
    simp only [Bool.false_and]
    exact jgood_err s j w hs h0
end Go.Proofs.YtbfbhlpibclccaaDoor
