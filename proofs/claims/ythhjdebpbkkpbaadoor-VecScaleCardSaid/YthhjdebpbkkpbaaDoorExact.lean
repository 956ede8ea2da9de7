/- The walk of the law VecExact: whatever the two vectors and the number, it returns true. Condition: the package variables lie as the program's text lays them. -/
import Derived.Test.YthhjdebpbkkpbaaDoorAwake
import Derived.Test.YthhjdebpbkkpbaaDoorRefAdd
import Derived.Deep.RegionHeld3
namespace Go.Proofs.YthhjdebpbkkpbaaDoor
open Go Go.RowKit

theorem Vb.step {w w' : World} {g : Nat} {x : V4} {o : Obj} (h : Vb w g x) (hb : Below (w.alloc o).heap.size (w.alloc o) w') : Vb w' g x :=
  (h.alloc o).below hb (lt_of_row (h.alloc o))
theorem Vb.step0 {w w' : World} {g : Nat} {x : V4} (h : Vb w g x) (hb : Below w.heap.size w w') : Vb w' g x := h.below hb (lt_of_row h)
theorem Vb.fresh {w w' : World} (x : V4) (hb : Below (w.alloc (.cells #[.int .i64 x.a, .int .i64 x.b, .int .i64 x.c, .int .i64 x.d] 23)).heap.size (w.alloc (.cells #[.int .i64 x.a, .int .i64 x.b, .int .i64 x.c, .int .i64 x.d] 23)) w') : Vb w' w.heap.size x :=
  (Vb.new w x).below hb (by simp)

theorem none_x (x : V4) (w : World) :
    Calls Tryd.prog 21 #[.agg #[.int .i64 x.a, .int .i64 x.b, .int .i64 x.c, .int .i64 x.d]] w fun e w' => e = .returned (.bool (x.a == 0 && (x.b == 0 && (x.c == 0 && x.d == 0)))) ∧ Below w.heap.size w w' :=
  (none_c x w).mono fun _ _ ⟨h, hb⟩ => ⟨h.trans (ret_bool (by rw [Bool.eq_iff_iff]; simp [noneV])), hb⟩

set_option maxRecDepth 100000 in
set_option maxHeartbeats 3200000 in
theorem exact_walk (s : Nat → Addr) (a b : V4) (n : Int) (w : World) (hs : Sent s w) :
    Calls Tryd.prog 3 #[.agg #[.int .i64 a.a, .int .i64 a.b, .int .i64 a.c, .int .i64 a.d], .agg #[.int .i64 b.a, .int .i64 b.b, .int .i64 b.c, .int .i64 b.d], .int .i64 n] w fun e w' => e = .returned (.bool true) ∧ Below w.heap.size w w' := by
  have hE := eqV
  go_enter Tryd.func3, Tryd.ntmps3
  go_wp2_with fail
  refine (awake_c s _ (hs.below (B := w.heap.size) (by (repeat' (first | (with_reducible exact Below.refl _ _) | (with_reducible refine below_drewN ?_ _) | (with_reducible refine Below.drew ?_) | (with_reducible refine Below.alloc ?_ ?_ _) | (with_reducible refine Below.setCell ?_ ?_ _) | (with_reducible refine Below.trans ?_ (Below.mono (by with_reducible assumption) ?_)) | omega | (simp only [World.size_alloc] at *; omega) | (with_reducible refine Below.size (B := 0) ?_)))) (Nat.le_refl _))).mono ?_
  rintro e w1 ⟨rfl, hb1⟩
  have Va : Vb w1 w.heap.size a := ((Vb.new w a).alloc _).step0 hb1
  have Vc : Vb w1 (w.heap.size + 1) b := (Vb.new_at (by simp) b).step0 hb1
  obtain ⟨a0, a1, a2, a3, af, al⟩ := Va.facts
  obtain ⟨c0, c1, c2, c3, cf, cl⟩ := Vc.facts
  go_wp2_with fail
  refine (add_c s a b _ (hs.below (B := w.heap.size) (by (repeat' (first | (with_reducible exact Below.refl _ _) | (with_reducible refine below_drewN ?_ _) | (with_reducible refine Below.drew ?_) | (with_reducible refine Below.alloc ?_ ?_ _) | (with_reducible refine Below.setCell ?_ ?_ _) | (with_reducible refine Below.trans ?_ (Below.mono (by with_reducible assumption) ?_)) | omega | (simp only [World.size_alloc] at *; omega) | (with_reducible refine Below.size (B := 0) ?_)))) (Nat.le_refl _))).mono ?_
  rintro e w2 ⟨rfl, hb2⟩
  clear a0 a1 a2 a3 af al c0 c1 c2 c3 cf cl
  replace Va := Va.step0 hb2
  replace Vc := Vc.step0 hb2
  obtain ⟨a0, a1, a2, a3, af, al⟩ := Va.facts
  obtain ⟨c0, c1, c2, c3, cf, cl⟩ := Vc.facts
  go_wp2_with fail
  refine (sub_c s a b _ (hs.below (B := w.heap.size) (by (repeat' (first | (with_reducible exact Below.refl _ _) | (with_reducible refine below_drewN ?_ _) | (with_reducible refine Below.drew ?_) | (with_reducible refine Below.alloc ?_ ?_ _) | (with_reducible refine Below.setCell ?_ ?_ _) | (with_reducible refine Below.trans ?_ (Below.mono (by with_reducible assumption) ?_)) | omega | (simp only [World.size_alloc] at *; omega) | (with_reducible refine Below.size (B := 0) ?_)))) (Nat.le_refl _))).mono ?_
  rintro e w3 ⟨rfl, hb3⟩
  clear a0 a1 a2 a3 af al c0 c1 c2 c3 cf cl
  replace Va := Va.step hb3
  replace Vc := Vc.step hb3
  have Vx := Vb.fresh ((addR a b).1) hb3
  obtain ⟨a0, a1, a2, a3, af, al⟩ := Va.facts
  obtain ⟨c0, c1, c2, c3, cf, cl⟩ := Vc.facts
  go_wp2_with fail
  refine (scale_c s a n _ (hs.below (B := w.heap.size) (by (repeat' (first | (with_reducible exact Below.refl _ _) | (with_reducible refine below_drewN ?_ _) | (with_reducible refine Below.drew ?_) | (with_reducible refine Below.alloc ?_ ?_ _) | (with_reducible refine Below.setCell ?_ ?_ _) | (with_reducible refine Below.trans ?_ (Below.mono (by with_reducible assumption) ?_)) | omega | (simp only [World.size_alloc] at *; omega) | (with_reducible refine Below.size (B := 0) ?_)))) (Nat.le_refl _))).mono ?_
  rintro e w4 ⟨rfl, hb4⟩
  clear a0 a1 a2 a3 af al c0 c1 c2 c3 cf cl
  replace Va := Va.step hb4
  replace Vc := Vc.step hb4
  replace Vx := Vx.step hb4
  have Vy := Vb.fresh ((subR a b).1) hb4
  obtain ⟨a0, a1, a2, a3, af, al⟩ := Va.facts
  obtain ⟨c0, c1, c2, c3, cf, cl⟩ := Vc.facts
  go_wp2_with fail
  refine (radd_c a b _).mono ?_
  rintro e w5 ⟨rfl, hb5⟩
  clear a0 a1 a2 a3 af al c0 c1 c2 c3 cf cl
  replace Va := Va.step hb5
  replace Vc := Vc.step hb5
  replace Vx := Vx.step hb5
  replace Vy := Vy.step hb5
  have Vz := Vb.fresh ((scaleR a n).1) hb5
  obtain ⟨a0, a1, a2, a3, af, al⟩ := Va.facts
  obtain ⟨c0, c1, c2, c3, cf, cl⟩ := Vc.facts
  go_wp2_with fail
  refine (rsub_c a b _).mono ?_
  rintro e w6 ⟨rfl, hb6⟩
  clear a0 a1 a2 a3 af al c0 c1 c2 c3 cf cl
  replace Va := Va.step hb6
  replace Vc := Vc.step hb6
  replace Vx := Vx.step hb6
  replace Vy := Vy.step hb6
  replace Vz := Vz.step hb6
  have Vu := Vb.fresh ((addR a b).1) hb6
  obtain ⟨a0, a1, a2, a3, af, al⟩ := Va.facts
  obtain ⟨c0, c1, c2, c3, cf, cl⟩ := Vc.facts
  go_wp2_with fail
  refine (rscale_c a n _).mono ?_
  rintro e w7 ⟨rfl, hb7⟩
  clear a0 a1 a2 a3 af al c0 c1 c2 c3 cf cl
  replace Va := Va.step hb7
  replace Vc := Vc.step hb7
  replace Vx := Vx.step hb7
  replace Vy := Vy.step hb7
  replace Vz := Vz.step hb7
  replace Vu := Vu.step hb7
  have Vv := Vb.fresh ((subR a b).1) hb7
  obtain ⟨a0, a1, a2, a3, af, al⟩ := Va.facts
  obtain ⟨c0, c1, c2, c3, cf, cl⟩ := Vc.facts
  clear a0 a1 a2 a3 af al c0 c1 c2 c3 cf cl
  obtain ⟨x0, x1, x2, x3, xf, xl⟩ := Vx.facts
  obtain ⟨u0, u1, u2, u3, uf, ul⟩ := Vu.facts
  go_wp2_with fail
  refine (kind_errV s (addR a b).2 _ (hs.below (B := w.heap.size) (by (repeat' (first | (with_reducible exact Below.refl _ _) | (with_reducible refine below_drewN ?_ _) | (with_reducible refine Below.drew ?_) | (with_reducible refine Below.alloc ?_ ?_ _) | (with_reducible refine Below.setCell ?_ ?_ _) | (with_reducible refine Below.trans ?_ (Below.mono (by with_reducible assumption) ?_)) | omega | (simp only [World.size_alloc] at *; omega) | (with_reducible refine Below.size (B := 0) ?_)))) (Nat.le_refl _)) (add_le a b)).mono ?_
  rintro e w8 ⟨rfl, hb8⟩
  clear x0 x1 x2 x3 xf xl u0 u1 u2 u3 uf ul
  replace Va := Va.step hb8
  replace Vc := Vc.step hb8
  replace Vx := Vx.step hb8
  replace Vy := Vy.step hb8
  replace Vz := Vz.step hb8
  replace Vu := Vu.step hb8
  replace Vv := Vv.step hb8
  have Vq := Vb.fresh ((scaleR a n).1) hb8
  obtain ⟨y0, y1, y2, y3, yf, yl⟩ := Vy.facts
  obtain ⟨v0, v1, v2, v3, vf, vl⟩ := Vv.facts
  go_wp2_with fail
  refine (kind_errV s (subR a b).2 _ (hs.below (B := w.heap.size) (by (repeat' (first | (with_reducible exact Below.refl _ _) | (with_reducible refine below_drewN ?_ _) | (with_reducible refine Below.drew ?_) | (with_reducible refine Below.alloc ?_ ?_ _) | (with_reducible refine Below.setCell ?_ ?_ _) | (with_reducible refine Below.trans ?_ (Below.mono (by with_reducible assumption) ?_)) | omega | (simp only [World.size_alloc] at *; omega) | (with_reducible refine Below.size (B := 0) ?_)))) (Nat.le_refl _)) (sub_le a b)).mono ?_
  rintro e w9 ⟨rfl, hb9⟩
  clear y0 y1 y2 y3 yf yl v0 v1 v2 v3 vf vl
  replace Va := Va.step0 hb9
  replace Vc := Vc.step0 hb9
  replace Vx := Vx.step0 hb9
  replace Vy := Vy.step0 hb9
  replace Vz := Vz.step0 hb9
  replace Vu := Vu.step0 hb9
  replace Vv := Vv.step0 hb9
  replace Vq := Vq.step0 hb9
  obtain ⟨z0, z1, z2, z3, zf, zl⟩ := Vz.facts
  obtain ⟨q0, q1, q2, q3, qf, ql⟩ := Vq.facts
  go_wp2_with fail
  refine (kind_errV s (scaleR a n).2 _ (hs.below (B := w.heap.size) (by (repeat' (first | (with_reducible exact Below.refl _ _) | (with_reducible refine below_drewN ?_ _) | (with_reducible refine Below.drew ?_) | (with_reducible refine Below.alloc ?_ ?_ _) | (with_reducible refine Below.setCell ?_ ?_ _) | (with_reducible refine Below.trans ?_ (Below.mono (by with_reducible assumption) ?_)) | omega | (simp only [World.size_alloc] at *; omega) | (with_reducible refine Below.size (B := 0) ?_)))) (Nat.le_refl _)) (scale_le a n)).mono ?_
  rintro e w10 ⟨rfl, hb10⟩
  clear z0 z1 z2 z3 zf zl q0 q1 q2 q3 qf ql
  replace Va := Va.step0 hb10
  replace Vc := Vc.step0 hb10
  replace Vx := Vx.step0 hb10
  replace Vy := Vy.step0 hb10
  replace Vz := Vz.step0 hb10
  replace Vu := Vu.step0 hb10
  replace Vv := Vv.step0 hb10
  replace Vq := Vq.step0 hb10
  clear Vx Vy Vz Vu Vv Vq
  obtain ⟨a0, a1, a2, a3, af, al⟩ := Va.facts
  obtain ⟨c0, c1, c2, c3, cf, cl⟩ := Vc.facts
  go_wp2_with fail
  have K10 : Hid (Below w.heap.size w w10) := Lib.hid (by (repeat' (first | (with_reducible exact Below.refl _ _) | (with_reducible refine below_drewN ?_ _) | (with_reducible refine Below.drew ?_) | (with_reducible refine Below.alloc ?_ ?_ _) | (with_reducible refine Below.setCell ?_ ?_ _) | (with_reducible refine Below.trans ?_ (Below.mono (by with_reducible assumption) ?_)) | omega | (simp only [World.size_alloc] at *; omega) | (with_reducible refine Below.size (B := 0) ?_))))
  have HS : Hid (∀ w' : World, Below w10.heap.size w10 w' → (w'.cell? ⟨w.heap.size, 0, none⟩ = some (.int .i64 a.a) ∧ w'.cell? ⟨w.heap.size, 1, none⟩ = some (.int .i64 a.b) ∧ w'.cell? ⟨w.heap.size, 2, none⟩ = some (.int .i64 a.c) ∧ w'.cell? ⟨w.heap.size, 3, none⟩ = some (.int .i64 a.d) ∧ w'.cell? ⟨w.heap.size + 1, 0, none⟩ = some (.int .i64 b.a) ∧ w'.cell? ⟨w.heap.size + 1, 1, none⟩ = some (.int .i64 b.b) ∧ w'.cell? ⟨w.heap.size + 1, 2, none⟩ = some (.int .i64 b.c) ∧ w'.cell? ⟨w.heap.size + 1, 3, none⟩ = some (.int .i64 b.d) ∧ Below w10.heap.size w10 w')) := Lib.hid fun w' h => ⟨(h.cell (p := ⟨w.heap.size, 0, none⟩) al).trans a0, (h.cell (p := ⟨w.heap.size, 1, none⟩) al).trans a1, (h.cell (p := ⟨w.heap.size, 2, none⟩) al).trans a2, (h.cell (p := ⟨w.heap.size, 3, none⟩) al).trans a3, (h.cell (p := ⟨w.heap.size + 1, 0, none⟩) cl).trans c0, (h.cell (p := ⟨w.heap.size + 1, 1, none⟩) cl).trans c1, (h.cell (p := ⟨w.heap.size + 1, 2, none⟩) cl).trans c2, (h.cell (p := ⟨w.heap.size + 1, 3, none⟩) cl).trans c3, h⟩
  clear a0 a1 a2 a3 af c0 c1 c2 c3 cf Va Vc hb1 hb2 hb3 hb4 hb5 hb6 hb7 hb8 hb9 hb10
  go_region_held3 (fun w' => w'.cell? ⟨w.heap.size, 0, none⟩ = some (.int .i64 a.a) ∧ w'.cell? ⟨w.heap.size, 1, none⟩ = some (.int .i64 a.b) ∧ w'.cell? ⟨w.heap.size, 2, none⟩ = some (.int .i64 a.c) ∧ w'.cell? ⟨w.heap.size, 3, none⟩ = some (.int .i64 a.d) ∧ w'.cell? ⟨w.heap.size + 1, 0, none⟩ = some (.int .i64 b.a) ∧ w'.cell? ⟨w.heap.size + 1, 1, none⟩ = some (.int .i64 b.b) ∧ w'.cell? ⟨w.heap.size + 1, 2, none⟩ = some (.int .i64 b.c) ∧ w'.cell? ⟨w.heap.size + 1, 3, none⟩ = some (.int .i64 b.d) ∧ Below w10.heap.size w10 w')
    (exact HS.out _ (by (repeat' (first | (with_reducible exact Below.refl _ _) | (with_reducible refine below_drewN ?_ _) | (with_reducible refine Below.drew ?_) | (with_reducible refine Below.alloc ?_ ?_ _) | (with_reducible refine Below.setCell ?_ ?_ _) | (with_reducible refine Below.trans ?_ (Below.mono (by with_reducible assumption) ?_)) | omega | (simp only [World.size_drew] at *; omega) | (with_reducible refine Below.size (B := 0) ?_)))))
    (first | (go_at_call 15; refine (good_c a _).mono ?_; rintro e w1 ⟨rfl, hb1⟩) | (go_at_call 16; refine (rgood_c a _).mono ?_; rintro e w1 ⟨rfl, hb1⟩) | (go_at_call 17; refine (fits_c a b _).mono ?_; rintro e w1 ⟨rfl, hb1⟩) | (go_at_call 18; refine (rfits_c a b _).mono ?_; rintro e w1 ⟨rfl, hb1⟩) | (go_at_call 19; refine (less_c a b _).mono ?_; rintro e w1 ⟨rfl, hb1⟩) | (go_at_call 20; refine (rless_c a b _).mono ?_; rintro e w1 ⟨rfl, hb1⟩) | (go_at_call 21; refine (none_x a _).mono ?_; rintro e w1 ⟨rfl, hb1⟩))
  all_goals go_wp2_with fail
  all_goals (go_ret; refine ⟨?_, K10.out.trans (Below.mono (B := w10.heap.size) (by (repeat' (first | (with_reducible exact Below.refl _ _) | (with_reducible refine below_drewN ?_ _) | (with_reducible refine Below.drew ?_) | (with_reducible refine Below.alloc ?_ ?_ _) | (with_reducible refine Below.setCell ?_ ?_ _) | (with_reducible refine Below.trans ?_ (Below.mono (by with_reducible assumption) ?_)) | omega | (simp only [World.size_drew] at *; omega) | (with_reducible refine Below.size (B := 0) ?_)))) (by have := K10.out.size; omega))⟩)
  all_goals first | rfl | (simp; done) | trace_state
end Go.Proofs.YthhjdebpbkkpbaaDoor
