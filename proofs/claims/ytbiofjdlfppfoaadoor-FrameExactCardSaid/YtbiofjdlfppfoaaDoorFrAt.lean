/- At which block an error of Read tells. Conditions: the sentinels and the type's variable lie as the program's text lays them. -/
import Derived.Test.YtbiofjdlfppfoaaDoorFrL
import Derived.Test.YtbiofjdlfppfoaaDoorAs
namespace Go.Proofs.YtbiofjdlfppfoaaDoor
open Go Go.RowKit

set_option maxHeartbeats 1600000 in
set_option maxRecDepth 100000 in
/-- at(e), e a Fault. -/
theorem at_fault (s : Nat → Addr) (b : Nat) (ev : Value) (w : World) (hs : Sent s w) (hy : ETy w) (h : FaultV s w opFrame b ev) :
    Calls Tryd.prog 15 #[ev] w fun e w' => e = .returned (.int .i64 (b : Int)) ∧ Below w.heap.size w w' := by
  obtain ⟨f, rfl, hf⟩ := h
  have hlt := (Array.getElem?_eq_some_iff.1 hf).1
  have F := Lib.hid hf; clear hf
  go_enter Tryd.func15, Tryd.ntmps15
  go_wp2_with fail
  have hs5 : Sent s (w.alloc (.cells #[.pointer none] 61)) := hs.below (B := w.heap.size) (by (repeat' (first | (with_reducible exact Below.refl _ _) | (with_reducible refine below_drewN ?_ _) | (with_reducible refine Below.drew ?_) | (with_reducible refine Below.alloc ?_ ?_ _) | (with_reducible refine Below.setCell ?_ ?_ _) | (with_reducible refine Below.trans ?_ (Below.mono (by with_reducible assumption) ?_)) | omega | (simp only [World.size_alloc, World.size_setCell, World.size_drew, Go.Proofs.YtbiofjdlfppfoaaDoor.World.size_drewN] at *; omega) | (with_reducible refine Below.size (B := 0) ?_)))) (Nat.le_refl _)
  have hy5 : ETy (w.alloc (.cells #[.pointer none] 61)) := hy.below (B := w.heap.size) (by (repeat' (first | (with_reducible exact Below.refl _ _) | (with_reducible refine below_drewN ?_ _) | (with_reducible refine Below.drew ?_) | (with_reducible refine Below.alloc ?_ ?_ _) | (with_reducible refine Below.setCell ?_ ?_ _) | (with_reducible refine Below.trans ?_ (Below.mono (by with_reducible assumption) ?_)) | omega | (simp only [World.size_alloc, World.size_setCell, World.size_drew, Go.Proofs.YtbiofjdlfppfoaaDoor.World.size_drewN] at *; omega) | (with_reducible refine Below.size (B := 0) ?_)))) (Nat.le_refl _)
  refine (as_fault ⟨f, 0, none⟩ ⟨w.heap.size, 0, none⟩ (.pointer none) _ hy5 (by simp) (by simp)).mono ?_
  rintro e w7 ⟨rfl, w6, hb6, rfl⟩
  have k6 : Hid (Below w.heap.size w w6) := Lib.hid (by (repeat' (first | (with_reducible exact Below.refl _ _) | (with_reducible refine below_drewN ?_ _) | (with_reducible refine Below.drew ?_) | (with_reducible refine Below.alloc ?_ ?_ _) | (with_reducible refine Below.setCell ?_ ?_ _) | (with_reducible refine Below.trans ?_ (Below.mono (by with_reducible assumption) ?_)) | omega | (simp only [World.size_alloc, World.size_setCell, World.size_drew, Go.Proofs.YtbiofjdlfppfoaaDoor.World.size_drewN] at *; omega) | (with_reducible refine Below.size (B := 0) ?_))))
  have y6 : w6.cell? ⟨w.heap.size, 0, none⟩ = some (.pointer none) := (hb6.cell (p := ⟨w.heap.size, 0, none⟩) (by simp)).trans (by simp)
  have hf6 : w6.heap[f]? = some (.cells (faultRow s opFrame b) 65 (0, 0)) := (k6.out.block f hlt).trans F.out
  have p0 : w6.cell? ⟨f, 0, none⟩ = some (.string ⟨#[102, 114, 97, 109, 101]⟩) := cell_of_heap hf6 0
  have p1 : w6.cell? ⟨f, 1, none⟩ = some (.int .i64 (b : Int)) := cell_of_heap hf6 1
  have hne : ¬ (w.heap.size = f) := by omega
  have hne' : ¬ (f = w.heap.size) := by omega
  have hz6 := k6.out.size
  have hs6 : Sent s w6 := hs.below k6.out (Nat.le_refl _)
  have hg := hs6.cell 1 (by omega)
  simp only [gnum, List.getD_cons_zero, List.getD_cons_succ] at hg
  have hgl : 1 < w.heap.size := lt_of_cell (hs.cell 1 (by omega))
  have hgn : ¬ (w.heap.size = 1) := by omega
  have hgn' : ¬ (1 = w.heap.size) := by omega
  have hf7 : (w6.setCell ⟨w.heap.size, 0, none⟩ (.pointer (some ⟨f, 0, none⟩))).heap[f]? = some (.cells (faultRow s opFrame b) 65 (0, 0)) := (Below.heap_setCell _ _ _ _ hne').trans hf6
  have HS7 : Hid (Sent s (w6.setCell ⟨w.heap.size, 0, none⟩ (.pointer (some ⟨f, 0, none⟩)))) := Lib.hid (hs.below (B := w.heap.size) (k6.out.setCell (Nat.le_refl _) _) (Nat.le_refl _))
  have b0 : ¬ ((b : Int) < 0) := by omega
  have F7 := Lib.hid hf7; clear hf7 hf6 hs5 hs6 hy5
  go_wp2_with fail
  refine (is_fault s 1 1 f 0 _ HS7.out (by omega) (by omega) (cell_of_heap F7.out 2)).mono ?_
  rintro e w8 ⟨rfl, rfl⟩
  go_wp2_with fail
  go_ret
  exact ⟨rfl, by (repeat' (first | (with_reducible exact Below.refl _ _) | (with_reducible refine below_drewN ?_ _) | (with_reducible refine Below.drew ?_) | (with_reducible refine Below.alloc ?_ ?_ _) | (with_reducible refine Below.setCell ?_ ?_ _) | (with_reducible refine Below.trans ?_ (Below.mono (by with_reducible assumption) ?_)) | omega | (simp only [World.size_alloc, World.size_setCell, World.size_drew, Go.Proofs.YtbiofjdlfppfoaaDoor.World.size_drewN] at *; omega) | (with_reducible refine Below.size (B := 0) ?_)))⟩
end Go.Proofs.YtbiofjdlfppfoaaDoor
