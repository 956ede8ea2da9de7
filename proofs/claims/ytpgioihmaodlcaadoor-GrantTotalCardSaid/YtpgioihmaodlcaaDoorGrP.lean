/- The contract of the law's plus: two vectors, amount by amount. No conditions. -/
import Derived.Test.YtpgioihmaodlcaaDoorGrK
namespace Go.Proofs.YtpgioihmaodlcaaDoor
open Go Go.RowKit

/-- Between the operations of a round: three vectors in blocks of their own. -/
structure PlS (w0 : World) (X : Nat) (a y o : V4) (W : World) : Prop where
  one : Vb W X a
  two : Vb W (X + 1) y
  out : Vb W (X + 1 + 1 + 1) o
  res : Vb W (X + 1 + 1) z4
  below : Below w0.heap.size w0 W

theorem Vb.set0 {w : World} {g : Nat} {x : V4} (h : Vb w g x) (v : Int) : Vb (w.setCell ⟨g, 0, none⟩ (.int .i64 v)) g ⟨v, x.b, x.c, x.d⟩ := by unfold Vb at h ⊢; simp [World.setCell, Array.getElem?_modify, h]
theorem Vb.set1 {w : World} {g : Nat} {x : V4} (h : Vb w g x) (v : Int) : Vb (w.setCell ⟨g, 1, none⟩ (.int .i64 v)) g ⟨x.a, v, x.c, x.d⟩ := by unfold Vb at h ⊢; simp [World.setCell, Array.getElem?_modify, h]
theorem Vb.set2 {w : World} {g : Nat} {x : V4} (h : Vb w g x) (v : Int) : Vb (w.setCell ⟨g, 2, none⟩ (.int .i64 v)) g ⟨x.a, x.b, v, x.d⟩ := by unfold Vb at h ⊢; simp [World.setCell, Array.getElem?_modify, h]
theorem Vb.set3 {w : World} {g : Nat} {x : V4} (h : Vb w g x) (v : Int) : Vb (w.setCell ⟨g, 3, none⟩ (.int .i64 v)) g ⟨x.a, x.b, x.c, v⟩ := by unfold Vb at h ⊢; simp [World.setCell, Array.getElem?_modify, h]
theorem PlS.drew {w0 : World} {X : Nat} {a y o : V4} {W : World} (h : PlS w0 X a y o W) : PlS w0 X a y o W.drew := ⟨h.one, h.two, h.out, h.res, h.below.drew⟩
theorem PlS.set {w0 : World} {X : Nat} {a y o o' : V4} {W : World} (h : PlS w0 X a y o W) (hX : w0.heap.size = X) (i : Nat) (v : Value) (ho : Vb (W.setCell ⟨X + 1 + 1 + 1, i, none⟩ v) (X + 1 + 1 + 1) o') : PlS w0 X a y o' (W.setCell ⟨X + 1 + 1 + 1, i, none⟩ v) :=
  ⟨h.one.far (by simp; omega) _, h.two.far (by simp) _, ho, h.res.far (by simp) _, h.below.setCell (by simp; omega) _⟩

set_option maxRecDepth 100000 in
set_option maxHeartbeats 3200000 in
/-- plus. -/
theorem plus_c (a y r : V4) (g : Int) (w : World) (h0 : IntKind.i64.wrap (a.a + IntKind.i64.wrap (g * y.a)) = r.a) (h1 : IntKind.i64.wrap (a.b + IntKind.i64.wrap (g * y.b)) = r.b) (h2 : IntKind.i64.wrap (a.c + IntKind.i64.wrap (g * y.c)) = r.c) (h3 : IntKind.i64.wrap (a.d + IntKind.i64.wrap (g * y.d)) = r.d) :
    Calls Tryd.prog 10 #[.agg #[.int .i64 a.a, .int .i64 a.b, .int .i64 a.c, .int .i64 a.d], .agg #[.int .i64 y.a, .int .i64 y.b, .int .i64 y.c, .int .i64 y.d], .int .i64 g] w fun e w' => e = .returned (.agg #[.int .i64 r.a, .int .i64 r.b, .int .i64 r.c, .int .i64 r.d]) ∧ Below w.heap.size w w' := by
  go_enter Tryd.func10, Tryd.ntmps10
  go_wp2_with fail
  obtain ⟨X, hX⟩ : ∃ X, w.heap.size = X := ⟨_, rfl⟩
  obtain ⟨W0, hW0⟩ : ∃ W0, (((w.alloc (.cells #[.int .i64 a.a, .int .i64 a.b, .int .i64 a.c, .int .i64 a.d] 29)).alloc (.cells #[.int .i64 y.a, .int .i64 y.b, .int .i64 y.c, .int .i64 y.d] 29)).alloc (.cells #[.int .i64 0, .int .i64 0, .int .i64 0, .int .i64 0] 29)).alloc (.cells #[.int .i64 0, .int .i64 0, .int .i64 0, .int .i64 0] 29) = W0 := ⟨_, rfl⟩
  have HP0 : Hid (PlS w X a y ⟨0, 0, 0, 0⟩ W0) := Lib.hid (by
    rw [← hW0]
    exact ⟨(((Vb.new_at hX.symm a).alloc _).alloc _).alloc _, ((Vb.new_at (by simp; omega) y).alloc _).alloc _, Vb.new_at (by simp; omega) ⟨0, 0, 0, 0⟩, (Vb.new_at (by simp; omega) z4).alloc _, by (repeat' (first | (with_reducible exact Below.refl _ _) | (with_reducible refine below_drewN ?_ _) | (with_reducible refine Below.drew ?_) | (with_reducible refine Below.alloc ?_ ?_ _) | (with_reducible refine Below.setCell ?_ ?_ _) | (with_reducible refine Below.trans ?_ (Below.mono (by with_reducible assumption) ?_)) | omega | (simp only [World.size_alloc] at *; omega) | (with_reducible refine Below.size (B := 0) ?_)))⟩)
  have HX := Lib.hid hX
  rw [hW0, hX]
  clear hW0 hX
  refine wp_loop_rounds 5 ?_
  rw [rounds_succ]
  go_wp2_with fail
  refine wp_region_last (z := 11) (S := fun W => PlS w X a y ⟨0, 0, 0, 0⟩ W) (by kernel_rfl) ?_ (fun hHeld => ?_)
  · exact HP0.out.drew
  refine rgl_take 0 (some 14) _ (by kernel_rfl) (by kernel_rfl) (by kernel_rfl) (by kernel_rfl) (fun _ _ _ h => h) (by kernel_rfl) (by kernel_rfl) (by intro w' hSw op_ ho; obtain ⟨a0, a1, a2, a3⟩ := vb_cells hSw.one; obtain ⟨y0, y1, y2, y3⟩ := vb_cells hSw.two; clear hSw; simp only [List.getElem?_toArray, List.getElem?_cons_zero, Option.some.injEq] at ho; subst ho; go_simp; with_reducible rfl) (by assumption) ?_
  try simp only [Act.put, List.setIfInBounds_toArray, List.set_cons_zero, List.set_cons_succ]
  refine rgl_take 1 (some 15) _ (by kernel_rfl) (by kernel_rfl) (by kernel_rfl) (by kernel_rfl) (fun _ _ _ h => h) (by kernel_rfl) (by kernel_rfl) (by intro w' hSw op_ ho; obtain ⟨a0, a1, a2, a3⟩ := vb_cells hSw.one; obtain ⟨y0, y1, y2, y3⟩ := vb_cells hSw.two; clear hSw; simp only [List.getElem?_toArray, List.getElem?_cons_succ, List.getElem?_cons_zero, Option.some.injEq] at ho; subst ho; go_simp; with_reducible rfl) (by assumption) ?_
  try simp only [Act.put, List.setIfInBounds_toArray, List.set_cons_zero, List.set_cons_succ]
  refine rgl_take 2 (some 16) _ (by kernel_rfl) (by kernel_rfl) (by kernel_rfl) (by kernel_rfl) (fun _ _ _ h => h) (by kernel_rfl) (by kernel_rfl) (by intro w' hSw op_ ho; obtain ⟨a0, a1, a2, a3⟩ := vb_cells hSw.one; obtain ⟨y0, y1, y2, y3⟩ := vb_cells hSw.two; clear hSw; simp only [List.getElem?_toArray, List.getElem?_cons_succ, List.getElem?_cons_zero, Option.some.injEq] at ho; subst ho; go_simp; with_reducible rfl) (by assumption) ?_
  try simp only [Act.put, List.setIfInBounds_toArray, List.set_cons_zero, List.set_cons_succ]
  refine rgl_take 3 (some 17) _ (by kernel_rfl) (by kernel_rfl) (by kernel_rfl) (by kernel_rfl) (fun _ _ _ h => h) (by kernel_rfl) (by kernel_rfl) (by intro w' hSw op_ ho; obtain ⟨a0, a1, a2, a3⟩ := vb_cells hSw.one; obtain ⟨y0, y1, y2, y3⟩ := vb_cells hSw.two; clear hSw; simp only [List.getElem?_toArray, List.getElem?_cons_succ, List.getElem?_cons_zero, Option.some.injEq] at ho; subst ho; go_simp; with_reducible rfl) (by assumption) ?_
  try simp only [Act.put, List.setIfInBounds_toArray, List.set_cons_zero, List.set_cons_succ]
  refine rgl_take 4 (some 18) _ (by kernel_rfl) (by kernel_rfl) (by kernel_rfl) (by kernel_rfl) (fun _ _ _ h => h) (by kernel_rfl) (by kernel_rfl) (by intro w' hSw op_ ho; obtain ⟨a0, a1, a2, a3⟩ := vb_cells hSw.one; obtain ⟨y0, y1, y2, y3⟩ := vb_cells hSw.two; clear hSw; simp only [List.getElem?_toArray, List.getElem?_cons_succ, List.getElem?_cons_zero, Option.some.injEq] at ho; subst ho; go_simp; with_reducible rfl) (by assumption) ?_
  try simp only [Act.put, List.setIfInBounds_toArray, List.set_cons_zero, List.set_cons_succ]
  refine rgl_take 5 (some 19) _ (by kernel_rfl) (by kernel_rfl) (by kernel_rfl) (by kernel_rfl) (fun _ _ _ h => h) (by kernel_rfl) (by kernel_rfl) (by intro w' hSw op_ ho; obtain ⟨a0, a1, a2, a3⟩ := vb_cells hSw.one; obtain ⟨y0, y1, y2, y3⟩ := vb_cells hSw.two; clear hSw; simp only [List.getElem?_toArray, List.getElem?_cons_succ, List.getElem?_cons_zero, Option.some.injEq] at ho; subst ho; go_simp; with_reducible rfl) (by assumption) ?_
  try simp only [Act.put, List.setIfInBounds_toArray, List.set_cons_zero, List.set_cons_succ]
  refine rgl_take 6 (some 20) _ (by kernel_rfl) (by kernel_rfl) (by kernel_rfl) (by kernel_rfl) (fun _ _ _ h => h) (by kernel_rfl) (by kernel_rfl) (by intro w' hSw op_ ho; obtain ⟨a0, a1, a2, a3⟩ := vb_cells hSw.one; obtain ⟨y0, y1, y2, y3⟩ := vb_cells hSw.two; clear hSw; simp only [List.getElem?_toArray, List.getElem?_cons_succ, List.getElem?_cons_zero, Option.some.injEq] at ho; subst ho; go_simp; with_reducible rfl) (by assumption) ?_
  try simp only [Act.put, List.setIfInBounds_toArray, List.set_cons_zero, List.set_cons_succ]
  refine rgl_take 7 (some 21) _ (by kernel_rfl) (by kernel_rfl) (by kernel_rfl) (by kernel_rfl) (fun _ _ _ h => h) (by kernel_rfl) (by kernel_rfl) (by intro w' hSw op_ ho; obtain ⟨a0, a1, a2, a3⟩ := vb_cells hSw.one; obtain ⟨y0, y1, y2, y3⟩ := vb_cells hSw.two; clear hSw; simp only [List.getElem?_toArray, List.getElem?_cons_succ, List.getElem?_cons_zero, Option.some.injEq] at ho; subst ho; go_simp; with_reducible rfl) (by assumption) ?_
  try simp only [Act.put, List.setIfInBounds_toArray, List.set_cons_zero, List.set_cons_succ]
  refine rgl_take 8 (some 22) _ (by kernel_rfl) (by kernel_rfl) (by kernel_rfl) (by kernel_rfl) (fun _ _ _ h => h) (by kernel_rfl) (by kernel_rfl) (by intro w' hSw op_ ho; obtain ⟨a0, a1, a2, a3⟩ := vb_cells hSw.one; obtain ⟨y0, y1, y2, y3⟩ := vb_cells hSw.two; clear hSw; simp only [List.getElem?_toArray, List.getElem?_cons_succ, List.getElem?_cons_zero, Option.some.injEq] at ho; subst ho; go_simp; with_reducible rfl) (by assumption) ?_
  try simp only [Act.put, List.setIfInBounds_toArray, List.set_cons_zero, List.set_cons_succ]
  refine rgl_take 9 (some 23) _ (by kernel_rfl) (by kernel_rfl) (by kernel_rfl) (by kernel_rfl) (fun _ _ _ h => h) (by kernel_rfl) (by kernel_rfl) (by intro w' hSw op_ ho; obtain ⟨a0, a1, a2, a3⟩ := vb_cells hSw.one; obtain ⟨y0, y1, y2, y3⟩ := vb_cells hSw.two; clear hSw; simp only [List.getElem?_toArray, List.getElem?_cons_succ, List.getElem?_cons_zero, Option.some.injEq] at ho; subst ho; go_simp; with_reducible rfl) (by assumption) ?_
  try simp only [Act.put, List.setIfInBounds_toArray, List.set_cons_zero, List.set_cons_succ]
  refine rgl_take 10 (some 24) _ (by kernel_rfl) (by kernel_rfl) (by kernel_rfl) (by kernel_rfl) (fun _ _ _ h => h) (by kernel_rfl) (by kernel_rfl) (by intro w' hSw op_ ho; obtain ⟨a0, a1, a2, a3⟩ := vb_cells hSw.one; obtain ⟨y0, y1, y2, y3⟩ := vb_cells hSw.two; clear hSw; simp only [List.getElem?_toArray, List.getElem?_cons_succ, List.getElem?_cons_zero, Option.some.injEq] at ho; subst ho; go_simp; with_reducible rfl) (by assumption) ?_
  try simp only [Act.put, List.setIfInBounds_toArray, List.set_cons_zero, List.set_cons_succ]
  refine rgl_last (by kernel_rfl) (by kernel_rfl) (by kernel_rfl) (fun op_ ho K hK => ?_)
  simp only [List.getElem?_toArray, List.getElem?_cons_succ, List.getElem?_cons_zero, Option.some.injEq] at ho
  subst ho
  obtain ⟨o0, o1, o2, o3, of, ol⟩ := hHeld.out.facts
  have HHE := Lib.hid hHeld
  clear hHeld
  go_simp
  refine hK.out _ _ ?_
  clear hK
  try simp only [Act.put, List.setIfInBounds_toArray, List.set_cons_zero, List.set_cons_succ]
  obtain ⟨W1, hW1⟩ : ∃ W1, (W0.setCell ⟨X + 1 + 1 + 1, 0, none⟩ (.int .i64 r.a)).drew = W1 := ⟨_, rfl⟩
  have HP1 : Hid (PlS w X a y ⟨r.a, 0, 0, 0⟩ W1) := Lib.hid (by rw [← hW1]; exact (HP0.out.set HX.out 0 _ (HP0.out.out.set0 r.a)).drew)
  rw [hW1]
  clear hW1 HP0 HHE o0 o1 o2 o3 of ol
  go_wp2_with fail
  rw [rounds_succ]
  go_wp2_with fail
  refine wp_region_last (z := 11) (S := fun W => PlS w X a y ⟨r.a, 0, 0, 0⟩ W) (by kernel_rfl) ?_ (fun hHeld => ?_)
  · exact HP1.out.drew
  refine rgl_take 0 (some 14) _ (by kernel_rfl) (by kernel_rfl) (by kernel_rfl) (by kernel_rfl) (fun _ _ _ h => h) (by kernel_rfl) (by kernel_rfl) (by intro w' hSw op_ ho; obtain ⟨a0, a1, a2, a3⟩ := vb_cells hSw.one; obtain ⟨y0, y1, y2, y3⟩ := vb_cells hSw.two; clear hSw; simp only [List.getElem?_toArray, List.getElem?_cons_zero, Option.some.injEq] at ho; subst ho; go_simp; with_reducible rfl) (by assumption) ?_
  try simp only [Act.put, List.setIfInBounds_toArray, List.set_cons_zero, List.set_cons_succ]
  refine rgl_take 1 (some 15) _ (by kernel_rfl) (by kernel_rfl) (by kernel_rfl) (by kernel_rfl) (fun _ _ _ h => h) (by kernel_rfl) (by kernel_rfl) (by intro w' hSw op_ ho; obtain ⟨a0, a1, a2, a3⟩ := vb_cells hSw.one; obtain ⟨y0, y1, y2, y3⟩ := vb_cells hSw.two; clear hSw; simp only [List.getElem?_toArray, List.getElem?_cons_succ, List.getElem?_cons_zero, Option.some.injEq] at ho; subst ho; go_simp; with_reducible rfl) (by assumption) ?_
  try simp only [Act.put, List.setIfInBounds_toArray, List.set_cons_zero, List.set_cons_succ]
  refine rgl_take 2 (some 16) _ (by kernel_rfl) (by kernel_rfl) (by kernel_rfl) (by kernel_rfl) (fun _ _ _ h => h) (by kernel_rfl) (by kernel_rfl) (by intro w' hSw op_ ho; obtain ⟨a0, a1, a2, a3⟩ := vb_cells hSw.one; obtain ⟨y0, y1, y2, y3⟩ := vb_cells hSw.two; clear hSw; simp only [List.getElem?_toArray, List.getElem?_cons_succ, List.getElem?_cons_zero, Option.some.injEq] at ho; subst ho; go_simp; with_reducible rfl) (by assumption) ?_
  try simp only [Act.put, List.setIfInBounds_toArray, List.set_cons_zero, List.set_cons_succ]
  refine rgl_take 3 (some 17) _ (by kernel_rfl) (by kernel_rfl) (by kernel_rfl) (by kernel_rfl) (fun _ _ _ h => h) (by kernel_rfl) (by kernel_rfl) (by intro w' hSw op_ ho; obtain ⟨a0, a1, a2, a3⟩ := vb_cells hSw.one; obtain ⟨y0, y1, y2, y3⟩ := vb_cells hSw.two; clear hSw; simp only [List.getElem?_toArray, List.getElem?_cons_succ, List.getElem?_cons_zero, Option.some.injEq] at ho; subst ho; go_simp; with_reducible rfl) (by assumption) ?_
  try simp only [Act.put, List.setIfInBounds_toArray, List.set_cons_zero, List.set_cons_succ]
  refine rgl_take 4 (some 18) _ (by kernel_rfl) (by kernel_rfl) (by kernel_rfl) (by kernel_rfl) (fun _ _ _ h => h) (by kernel_rfl) (by kernel_rfl) (by intro w' hSw op_ ho; obtain ⟨a0, a1, a2, a3⟩ := vb_cells hSw.one; obtain ⟨y0, y1, y2, y3⟩ := vb_cells hSw.two; clear hSw; simp only [List.getElem?_toArray, List.getElem?_cons_succ, List.getElem?_cons_zero, Option.some.injEq] at ho; subst ho; go_simp; with_reducible rfl) (by assumption) ?_
  try simp only [Act.put, List.setIfInBounds_toArray, List.set_cons_zero, List.set_cons_succ]
  refine rgl_take 5 (some 19) _ (by kernel_rfl) (by kernel_rfl) (by kernel_rfl) (by kernel_rfl) (fun _ _ _ h => h) (by kernel_rfl) (by kernel_rfl) (by intro w' hSw op_ ho; obtain ⟨a0, a1, a2, a3⟩ := vb_cells hSw.one; obtain ⟨y0, y1, y2, y3⟩ := vb_cells hSw.two; clear hSw; simp only [List.getElem?_toArray, List.getElem?_cons_succ, List.getElem?_cons_zero, Option.some.injEq] at ho; subst ho; go_simp; with_reducible rfl) (by assumption) ?_
  try simp only [Act.put, List.setIfInBounds_toArray, List.set_cons_zero, List.set_cons_succ]
  refine rgl_take 6 (some 20) _ (by kernel_rfl) (by kernel_rfl) (by kernel_rfl) (by kernel_rfl) (fun _ _ _ h => h) (by kernel_rfl) (by kernel_rfl) (by intro w' hSw op_ ho; obtain ⟨a0, a1, a2, a3⟩ := vb_cells hSw.one; obtain ⟨y0, y1, y2, y3⟩ := vb_cells hSw.two; clear hSw; simp only [List.getElem?_toArray, List.getElem?_cons_succ, List.getElem?_cons_zero, Option.some.injEq] at ho; subst ho; go_simp; with_reducible rfl) (by assumption) ?_
  try simp only [Act.put, List.setIfInBounds_toArray, List.set_cons_zero, List.set_cons_succ]
  refine rgl_take 7 (some 21) _ (by kernel_rfl) (by kernel_rfl) (by kernel_rfl) (by kernel_rfl) (fun _ _ _ h => h) (by kernel_rfl) (by kernel_rfl) (by intro w' hSw op_ ho; obtain ⟨a0, a1, a2, a3⟩ := vb_cells hSw.one; obtain ⟨y0, y1, y2, y3⟩ := vb_cells hSw.two; clear hSw; simp only [List.getElem?_toArray, List.getElem?_cons_succ, List.getElem?_cons_zero, Option.some.injEq] at ho; subst ho; go_simp; with_reducible rfl) (by assumption) ?_
  try simp only [Act.put, List.setIfInBounds_toArray, List.set_cons_zero, List.set_cons_succ]
  refine rgl_take 8 (some 22) _ (by kernel_rfl) (by kernel_rfl) (by kernel_rfl) (by kernel_rfl) (fun _ _ _ h => h) (by kernel_rfl) (by kernel_rfl) (by intro w' hSw op_ ho; obtain ⟨a0, a1, a2, a3⟩ := vb_cells hSw.one; obtain ⟨y0, y1, y2, y3⟩ := vb_cells hSw.two; clear hSw; simp only [List.getElem?_toArray, List.getElem?_cons_succ, List.getElem?_cons_zero, Option.some.injEq] at ho; subst ho; go_simp; with_reducible rfl) (by assumption) ?_
  try simp only [Act.put, List.setIfInBounds_toArray, List.set_cons_zero, List.set_cons_succ]
  refine rgl_take 9 (some 23) _ (by kernel_rfl) (by kernel_rfl) (by kernel_rfl) (by kernel_rfl) (fun _ _ _ h => h) (by kernel_rfl) (by kernel_rfl) (by intro w' hSw op_ ho; obtain ⟨a0, a1, a2, a3⟩ := vb_cells hSw.one; obtain ⟨y0, y1, y2, y3⟩ := vb_cells hSw.two; clear hSw; simp only [List.getElem?_toArray, List.getElem?_cons_succ, List.getElem?_cons_zero, Option.some.injEq] at ho; subst ho; go_simp; with_reducible rfl) (by assumption) ?_
  try simp only [Act.put, List.setIfInBounds_toArray, List.set_cons_zero, List.set_cons_succ]
  refine rgl_take 10 (some 24) _ (by kernel_rfl) (by kernel_rfl) (by kernel_rfl) (by kernel_rfl) (fun _ _ _ h => h) (by kernel_rfl) (by kernel_rfl) (by intro w' hSw op_ ho; obtain ⟨a0, a1, a2, a3⟩ := vb_cells hSw.one; obtain ⟨y0, y1, y2, y3⟩ := vb_cells hSw.two; clear hSw; simp only [List.getElem?_toArray, List.getElem?_cons_succ, List.getElem?_cons_zero, Option.some.injEq] at ho; subst ho; go_simp; with_reducible rfl) (by assumption) ?_
  try simp only [Act.put, List.setIfInBounds_toArray, List.set_cons_zero, List.set_cons_succ]
  refine rgl_last (by kernel_rfl) (by kernel_rfl) (by kernel_rfl) (fun op_ ho K hK => ?_)
  simp only [List.getElem?_toArray, List.getElem?_cons_succ, List.getElem?_cons_zero, Option.some.injEq] at ho
  subst ho
  obtain ⟨o0, o1, o2, o3, of, ol⟩ := hHeld.out.facts
  have HHE := Lib.hid hHeld
  clear hHeld
  go_simp
  refine hK.out _ _ ?_
  clear hK
  try simp only [Act.put, List.setIfInBounds_toArray, List.set_cons_zero, List.set_cons_succ]
  obtain ⟨W2, hW2⟩ : ∃ W2, (W1.setCell ⟨X + 1 + 1 + 1, 1, none⟩ (.int .i64 r.b)).drew = W2 := ⟨_, rfl⟩
  have HP2 : Hid (PlS w X a y ⟨r.a, r.b, 0, 0⟩ W2) := Lib.hid (by rw [← hW2]; exact (HP1.out.set HX.out 1 _ (HP1.out.out.set1 r.b)).drew)
  rw [hW2]
  clear hW2 HP1 HHE o0 o1 o2 o3 of ol
  go_wp2_with fail
  rw [rounds_succ]
  go_wp2_with fail
  refine wp_region_last (z := 11) (S := fun W => PlS w X a y ⟨r.a, r.b, 0, 0⟩ W) (by kernel_rfl) ?_ (fun hHeld => ?_)
  · exact HP2.out.drew
  refine rgl_take 0 (some 14) _ (by kernel_rfl) (by kernel_rfl) (by kernel_rfl) (by kernel_rfl) (fun _ _ _ h => h) (by kernel_rfl) (by kernel_rfl) (by intro w' hSw op_ ho; obtain ⟨a0, a1, a2, a3⟩ := vb_cells hSw.one; obtain ⟨y0, y1, y2, y3⟩ := vb_cells hSw.two; clear hSw; simp only [List.getElem?_toArray, List.getElem?_cons_zero, Option.some.injEq] at ho; subst ho; go_simp; with_reducible rfl) (by assumption) ?_
  try simp only [Act.put, List.setIfInBounds_toArray, List.set_cons_zero, List.set_cons_succ]
  refine rgl_take 1 (some 15) _ (by kernel_rfl) (by kernel_rfl) (by kernel_rfl) (by kernel_rfl) (fun _ _ _ h => h) (by kernel_rfl) (by kernel_rfl) (by intro w' hSw op_ ho; obtain ⟨a0, a1, a2, a3⟩ := vb_cells hSw.one; obtain ⟨y0, y1, y2, y3⟩ := vb_cells hSw.two; clear hSw; simp only [List.getElem?_toArray, List.getElem?_cons_succ, List.getElem?_cons_zero, Option.some.injEq] at ho; subst ho; go_simp; with_reducible rfl) (by assumption) ?_
  try simp only [Act.put, List.setIfInBounds_toArray, List.set_cons_zero, List.set_cons_succ]
  refine rgl_take 2 (some 16) _ (by kernel_rfl) (by kernel_rfl) (by kernel_rfl) (by kernel_rfl) (fun _ _ _ h => h) (by kernel_rfl) (by kernel_rfl) (by intro w' hSw op_ ho; obtain ⟨a0, a1, a2, a3⟩ := vb_cells hSw.one; obtain ⟨y0, y1, y2, y3⟩ := vb_cells hSw.two; clear hSw; simp only [List.getElem?_toArray, List.getElem?_cons_succ, List.getElem?_cons_zero, Option.some.injEq] at ho; subst ho; go_simp; with_reducible rfl) (by assumption) ?_
  try simp only [Act.put, List.setIfInBounds_toArray, List.set_cons_zero, List.set_cons_succ]
  refine rgl_take 3 (some 17) _ (by kernel_rfl) (by kernel_rfl) (by kernel_rfl) (by kernel_rfl) (fun _ _ _ h => h) (by kernel_rfl) (by kernel_rfl) (by intro w' hSw op_ ho; obtain ⟨a0, a1, a2, a3⟩ := vb_cells hSw.one; obtain ⟨y0, y1, y2, y3⟩ := vb_cells hSw.two; clear hSw; simp only [List.getElem?_toArray, List.getElem?_cons_succ, List.getElem?_cons_zero, Option.some.injEq] at ho; subst ho; go_simp; with_reducible rfl) (by assumption) ?_
  try simp only [Act.put, List.setIfInBounds_toArray, List.set_cons_zero, List.set_cons_succ]
  refine rgl_take 4 (some 18) _ (by kernel_rfl) (by kernel_rfl) (by kernel_rfl) (by kernel_rfl) (fun _ _ _ h => h) (by kernel_rfl) (by kernel_rfl) (by intro w' hSw op_ ho; obtain ⟨a0, a1, a2, a3⟩ := vb_cells hSw.one; obtain ⟨y0, y1, y2, y3⟩ := vb_cells hSw.two; clear hSw; simp only [List.getElem?_toArray, List.getElem?_cons_succ, List.getElem?_cons_zero, Option.some.injEq] at ho; subst ho; go_simp; with_reducible rfl) (by assumption) ?_
  try simp only [Act.put, List.setIfInBounds_toArray, List.set_cons_zero, List.set_cons_succ]
  refine rgl_take 5 (some 19) _ (by kernel_rfl) (by kernel_rfl) (by kernel_rfl) (by kernel_rfl) (fun _ _ _ h => h) (by kernel_rfl) (by kernel_rfl) (by intro w' hSw op_ ho; obtain ⟨a0, a1, a2, a3⟩ := vb_cells hSw.one; obtain ⟨y0, y1, y2, y3⟩ := vb_cells hSw.two; clear hSw; simp only [List.getElem?_toArray, List.getElem?_cons_succ, List.getElem?_cons_zero, Option.some.injEq] at ho; subst ho; go_simp; with_reducible rfl) (by assumption) ?_
  try simp only [Act.put, List.setIfInBounds_toArray, List.set_cons_zero, List.set_cons_succ]
  refine rgl_take 6 (some 20) _ (by kernel_rfl) (by kernel_rfl) (by kernel_rfl) (by kernel_rfl) (fun _ _ _ h => h) (by kernel_rfl) (by kernel_rfl) (by intro w' hSw op_ ho; obtain ⟨a0, a1, a2, a3⟩ := vb_cells hSw.one; obtain ⟨y0, y1, y2, y3⟩ := vb_cells hSw.two; clear hSw; simp only [List.getElem?_toArray, List.getElem?_cons_succ, List.getElem?_cons_zero, Option.some.injEq] at ho; subst ho; go_simp; with_reducible rfl) (by assumption) ?_
  try simp only [Act.put, List.setIfInBounds_toArray, List.set_cons_zero, List.set_cons_succ]
  refine rgl_take 7 (some 21) _ (by kernel_rfl) (by kernel_rfl) (by kernel_rfl) (by kernel_rfl) (fun _ _ _ h => h) (by kernel_rfl) (by kernel_rfl) (by intro w' hSw op_ ho; obtain ⟨a0, a1, a2, a3⟩ := vb_cells hSw.one; obtain ⟨y0, y1, y2, y3⟩ := vb_cells hSw.two; clear hSw; simp only [List.getElem?_toArray, List.getElem?_cons_succ, List.getElem?_cons_zero, Option.some.injEq] at ho; subst ho; go_simp; with_reducible rfl) (by assumption) ?_
  try simp only [Act.put, List.setIfInBounds_toArray, List.set_cons_zero, List.set_cons_succ]
  refine rgl_take 8 (some 22) _ (by kernel_rfl) (by kernel_rfl) (by kernel_rfl) (by kernel_rfl) (fun _ _ _ h => h) (by kernel_rfl) (by kernel_rfl) (by intro w' hSw op_ ho; obtain ⟨a0, a1, a2, a3⟩ := vb_cells hSw.one; obtain ⟨y0, y1, y2, y3⟩ := vb_cells hSw.two; clear hSw; simp only [List.getElem?_toArray, List.getElem?_cons_succ, List.getElem?_cons_zero, Option.some.injEq] at ho; subst ho; go_simp; with_reducible rfl) (by assumption) ?_
  try simp only [Act.put, List.setIfInBounds_toArray, List.set_cons_zero, List.set_cons_succ]
  refine rgl_take 9 (some 23) _ (by kernel_rfl) (by kernel_rfl) (by kernel_rfl) (by kernel_rfl) (fun _ _ _ h => h) (by kernel_rfl) (by kernel_rfl) (by intro w' hSw op_ ho; obtain ⟨a0, a1, a2, a3⟩ := vb_cells hSw.one; obtain ⟨y0, y1, y2, y3⟩ := vb_cells hSw.two; clear hSw; simp only [List.getElem?_toArray, List.getElem?_cons_succ, List.getElem?_cons_zero, Option.some.injEq] at ho; subst ho; go_simp; with_reducible rfl) (by assumption) ?_
  try simp only [Act.put, List.setIfInBounds_toArray, List.set_cons_zero, List.set_cons_succ]
  refine rgl_take 10 (some 24) _ (by kernel_rfl) (by kernel_rfl) (by kernel_rfl) (by kernel_rfl) (fun _ _ _ h => h) (by kernel_rfl) (by kernel_rfl) (by intro w' hSw op_ ho; obtain ⟨a0, a1, a2, a3⟩ := vb_cells hSw.one; obtain ⟨y0, y1, y2, y3⟩ := vb_cells hSw.two; clear hSw; simp only [List.getElem?_toArray, List.getElem?_cons_succ, List.getElem?_cons_zero, Option.some.injEq] at ho; subst ho; go_simp; with_reducible rfl) (by assumption) ?_
  try simp only [Act.put, List.setIfInBounds_toArray, List.set_cons_zero, List.set_cons_succ]
  refine rgl_last (by kernel_rfl) (by kernel_rfl) (by kernel_rfl) (fun op_ ho K hK => ?_)
  simp only [List.getElem?_toArray, List.getElem?_cons_succ, List.getElem?_cons_zero, Option.some.injEq] at ho
  subst ho
  obtain ⟨o0, o1, o2, o3, of, ol⟩ := hHeld.out.facts
  have HHE := Lib.hid hHeld
  clear hHeld
  go_simp
  refine hK.out _ _ ?_
  clear hK
  try simp only [Act.put, List.setIfInBounds_toArray, List.set_cons_zero, List.set_cons_succ]
  obtain ⟨W3, hW3⟩ : ∃ W3, (W2.setCell ⟨X + 1 + 1 + 1, 2, none⟩ (.int .i64 r.c)).drew = W3 := ⟨_, rfl⟩
  have HP3 : Hid (PlS w X a y ⟨r.a, r.b, r.c, 0⟩ W3) := Lib.hid (by rw [← hW3]; exact (HP2.out.set HX.out 2 _ (HP2.out.out.set2 r.c)).drew)
  rw [hW3]
  clear hW3 HP2 HHE o0 o1 o2 o3 of ol
  go_wp2_with fail
  rw [rounds_succ]
  go_wp2_with fail
  refine wp_region_last (z := 11) (S := fun W => PlS w X a y ⟨r.a, r.b, r.c, 0⟩ W) (by kernel_rfl) ?_ (fun hHeld => ?_)
  · exact HP3.out.drew
  refine rgl_take 0 (some 14) _ (by kernel_rfl) (by kernel_rfl) (by kernel_rfl) (by kernel_rfl) (fun _ _ _ h => h) (by kernel_rfl) (by kernel_rfl) (by intro w' hSw op_ ho; obtain ⟨a0, a1, a2, a3⟩ := vb_cells hSw.one; obtain ⟨y0, y1, y2, y3⟩ := vb_cells hSw.two; clear hSw; simp only [List.getElem?_toArray, List.getElem?_cons_zero, Option.some.injEq] at ho; subst ho; go_simp; with_reducible rfl) (by assumption) ?_
  try simp only [Act.put, List.setIfInBounds_toArray, List.set_cons_zero, List.set_cons_succ]
  refine rgl_take 1 (some 15) _ (by kernel_rfl) (by kernel_rfl) (by kernel_rfl) (by kernel_rfl) (fun _ _ _ h => h) (by kernel_rfl) (by kernel_rfl) (by intro w' hSw op_ ho; obtain ⟨a0, a1, a2, a3⟩ := vb_cells hSw.one; obtain ⟨y0, y1, y2, y3⟩ := vb_cells hSw.two; clear hSw; simp only [List.getElem?_toArray, List.getElem?_cons_succ, List.getElem?_cons_zero, Option.some.injEq] at ho; subst ho; go_simp; with_reducible rfl) (by assumption) ?_
  try simp only [Act.put, List.setIfInBounds_toArray, List.set_cons_zero, List.set_cons_succ]
  refine rgl_take 2 (some 16) _ (by kernel_rfl) (by kernel_rfl) (by kernel_rfl) (by kernel_rfl) (fun _ _ _ h => h) (by kernel_rfl) (by kernel_rfl) (by intro w' hSw op_ ho; obtain ⟨a0, a1, a2, a3⟩ := vb_cells hSw.one; obtain ⟨y0, y1, y2, y3⟩ := vb_cells hSw.two; clear hSw; simp only [List.getElem?_toArray, List.getElem?_cons_succ, List.getElem?_cons_zero, Option.some.injEq] at ho; subst ho; go_simp; with_reducible rfl) (by assumption) ?_
  try simp only [Act.put, List.setIfInBounds_toArray, List.set_cons_zero, List.set_cons_succ]
  refine rgl_take 3 (some 17) _ (by kernel_rfl) (by kernel_rfl) (by kernel_rfl) (by kernel_rfl) (fun _ _ _ h => h) (by kernel_rfl) (by kernel_rfl) (by intro w' hSw op_ ho; obtain ⟨a0, a1, a2, a3⟩ := vb_cells hSw.one; obtain ⟨y0, y1, y2, y3⟩ := vb_cells hSw.two; clear hSw; simp only [List.getElem?_toArray, List.getElem?_cons_succ, List.getElem?_cons_zero, Option.some.injEq] at ho; subst ho; go_simp; with_reducible rfl) (by assumption) ?_
  try simp only [Act.put, List.setIfInBounds_toArray, List.set_cons_zero, List.set_cons_succ]
  refine rgl_take 4 (some 18) _ (by kernel_rfl) (by kernel_rfl) (by kernel_rfl) (by kernel_rfl) (fun _ _ _ h => h) (by kernel_rfl) (by kernel_rfl) (by intro w' hSw op_ ho; obtain ⟨a0, a1, a2, a3⟩ := vb_cells hSw.one; obtain ⟨y0, y1, y2, y3⟩ := vb_cells hSw.two; clear hSw; simp only [List.getElem?_toArray, List.getElem?_cons_succ, List.getElem?_cons_zero, Option.some.injEq] at ho; subst ho; go_simp; with_reducible rfl) (by assumption) ?_
  try simp only [Act.put, List.setIfInBounds_toArray, List.set_cons_zero, List.set_cons_succ]
  refine rgl_take 5 (some 19) _ (by kernel_rfl) (by kernel_rfl) (by kernel_rfl) (by kernel_rfl) (fun _ _ _ h => h) (by kernel_rfl) (by kernel_rfl) (by intro w' hSw op_ ho; obtain ⟨a0, a1, a2, a3⟩ := vb_cells hSw.one; obtain ⟨y0, y1, y2, y3⟩ := vb_cells hSw.two; clear hSw; simp only [List.getElem?_toArray, List.getElem?_cons_succ, List.getElem?_cons_zero, Option.some.injEq] at ho; subst ho; go_simp; with_reducible rfl) (by assumption) ?_
  try simp only [Act.put, List.setIfInBounds_toArray, List.set_cons_zero, List.set_cons_succ]
  refine rgl_take 6 (some 20) _ (by kernel_rfl) (by kernel_rfl) (by kernel_rfl) (by kernel_rfl) (fun _ _ _ h => h) (by kernel_rfl) (by kernel_rfl) (by intro w' hSw op_ ho; obtain ⟨a0, a1, a2, a3⟩ := vb_cells hSw.one; obtain ⟨y0, y1, y2, y3⟩ := vb_cells hSw.two; clear hSw; simp only [List.getElem?_toArray, List.getElem?_cons_succ, List.getElem?_cons_zero, Option.some.injEq] at ho; subst ho; go_simp; with_reducible rfl) (by assumption) ?_
  try simp only [Act.put, List.setIfInBounds_toArray, List.set_cons_zero, List.set_cons_succ]
  refine rgl_take 7 (some 21) _ (by kernel_rfl) (by kernel_rfl) (by kernel_rfl) (by kernel_rfl) (fun _ _ _ h => h) (by kernel_rfl) (by kernel_rfl) (by intro w' hSw op_ ho; obtain ⟨a0, a1, a2, a3⟩ := vb_cells hSw.one; obtain ⟨y0, y1, y2, y3⟩ := vb_cells hSw.two; clear hSw; simp only [List.getElem?_toArray, List.getElem?_cons_succ, List.getElem?_cons_zero, Option.some.injEq] at ho; subst ho; go_simp; with_reducible rfl) (by assumption) ?_
  try simp only [Act.put, List.setIfInBounds_toArray, List.set_cons_zero, List.set_cons_succ]
  refine rgl_take 8 (some 22) _ (by kernel_rfl) (by kernel_rfl) (by kernel_rfl) (by kernel_rfl) (fun _ _ _ h => h) (by kernel_rfl) (by kernel_rfl) (by intro w' hSw op_ ho; obtain ⟨a0, a1, a2, a3⟩ := vb_cells hSw.one; obtain ⟨y0, y1, y2, y3⟩ := vb_cells hSw.two; clear hSw; simp only [List.getElem?_toArray, List.getElem?_cons_succ, List.getElem?_cons_zero, Option.some.injEq] at ho; subst ho; go_simp; with_reducible rfl) (by assumption) ?_
  try simp only [Act.put, List.setIfInBounds_toArray, List.set_cons_zero, List.set_cons_succ]
  refine rgl_take 9 (some 23) _ (by kernel_rfl) (by kernel_rfl) (by kernel_rfl) (by kernel_rfl) (fun _ _ _ h => h) (by kernel_rfl) (by kernel_rfl) (by intro w' hSw op_ ho; obtain ⟨a0, a1, a2, a3⟩ := vb_cells hSw.one; obtain ⟨y0, y1, y2, y3⟩ := vb_cells hSw.two; clear hSw; simp only [List.getElem?_toArray, List.getElem?_cons_succ, List.getElem?_cons_zero, Option.some.injEq] at ho; subst ho; go_simp; with_reducible rfl) (by assumption) ?_
  try simp only [Act.put, List.setIfInBounds_toArray, List.set_cons_zero, List.set_cons_succ]
  refine rgl_take 10 (some 24) _ (by kernel_rfl) (by kernel_rfl) (by kernel_rfl) (by kernel_rfl) (fun _ _ _ h => h) (by kernel_rfl) (by kernel_rfl) (by intro w' hSw op_ ho; obtain ⟨a0, a1, a2, a3⟩ := vb_cells hSw.one; obtain ⟨y0, y1, y2, y3⟩ := vb_cells hSw.two; clear hSw; simp only [List.getElem?_toArray, List.getElem?_cons_succ, List.getElem?_cons_zero, Option.some.injEq] at ho; subst ho; go_simp; with_reducible rfl) (by assumption) ?_
  try simp only [Act.put, List.setIfInBounds_toArray, List.set_cons_zero, List.set_cons_succ]
  refine rgl_last (by kernel_rfl) (by kernel_rfl) (by kernel_rfl) (fun op_ ho K hK => ?_)
  simp only [List.getElem?_toArray, List.getElem?_cons_succ, List.getElem?_cons_zero, Option.some.injEq] at ho
  subst ho
  obtain ⟨o0, o1, o2, o3, of, ol⟩ := hHeld.out.facts
  have HHE := Lib.hid hHeld
  clear hHeld
  go_simp
  refine hK.out _ _ ?_
  clear hK
  try simp only [Act.put, List.setIfInBounds_toArray, List.set_cons_zero, List.set_cons_succ]
  obtain ⟨W4, hW4⟩ : ∃ W4, (W3.setCell ⟨X + 1 + 1 + 1, 3, none⟩ (.int .i64 r.d)).drew = W4 := ⟨_, rfl⟩
  have HP4 : Hid (PlS w X a y ⟨r.a, r.b, r.c, r.d⟩ W4) := Lib.hid (by rw [← hW4]; exact (HP3.out.set HX.out 3 _ (HP3.out.out.set3 r.d)).drew)
  rw [hW4]
  clear hW4 HP3 HHE o0 o1 o2 o3 of ol
  go_wp2_with fail
  rw [rounds_succ]
  obtain ⟨c0, c1, c2, c3, cf, cl⟩ := HP4.out.out.facts
  obtain ⟨r0, r1, r2, r3, rf, rl⟩ := HP4.out.res.facts
  go_wp2_with fail
  refine bodyPost_ret (v := .agg #[.int .i64 r.a, .int .i64 r.b, .int .i64 r.c, .int .i64 r.d]) (by simp [results, Tryd.results10, go_sem, r0, r1, r2, r3]) rfl ?_
  refine ⟨rfl, ?_⟩
  have hb := HP4.out.below
  have hx := HX.out
  exact (((hb.setCell (p := ⟨X + 1 + 1, 0, none⟩) (by simp; omega) _).setCell (p := ⟨X + 1 + 1, 1, none⟩) (by simp; omega) _).setCell (p := ⟨X + 1 + 1, 2, none⟩) (by simp; omega) _).setCell (p := ⟨X + 1 + 1, 3, none⟩) (by simp; omega) _
end Go.Proofs.YtpgioihmaodlcaaDoor
