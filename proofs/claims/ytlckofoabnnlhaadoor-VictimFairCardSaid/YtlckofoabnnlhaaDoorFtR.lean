/- The reference's fit by contract: fits, and the place of the best spot. Conditions: the spots lie in memory. -/
import Derived.Test.YtlckofoabnnlhaaDoorFtE
import Derived.Test.YtlckofoabnnlhaaDoorRefAdd
import Derived.Test.YtlckofoabnnlhaaDoorRgC
import Derived.Lib.Hide
import Derived.LoopTactic
import Derived.Deep.RegionHeld3
import Derived.Deep.DeepCutAuto
import Derived.Deep.CutBlock
import Derived.Deep.LoopGhost
namespace Go.Proofs.YtlckofoabnnlhaaDoor
open Go Go.RowKit

/-- A block that is one vector. -/
def Vk (w : World) (g : Nat) (x : V4) : Prop := w.heap[g]? = some (.cells #[.int .i64 x.a, .int .i64 x.b, .int .i64 x.c, .int .i64 x.d] 24 (0, 0))
theorem Vk.cells {w : World} {g : Nat} {x : V4} (h : Vk w g x) : w.cell? ⟨g, 0, none⟩ = some (.int .i64 x.a) ∧ w.cell? ⟨g, 1, none⟩ = some (.int .i64 x.b) ∧ w.cell? ⟨g, 2, none⟩ = some (.int .i64 x.c) ∧ w.cell? ⟨g, 3, none⟩ = some (.int .i64 x.d) ∧ g < w.heap.size ∧ ∀ j, w.frozen? ⟨g, j, none⟩ = false :=
  ⟨cell_of_heap h 0, cell_of_heap h 1, cell_of_heap h 2, cell_of_heap h 3, lt_of_block h, frozen_of_heap h⟩
theorem Vk.on {w w' : World} {g : Nat} {x : V4} (h : Vk w g x) (hb : Below w.heap.size w w') : Vk w' g x := (hb.block g (lt_of_block h)).trans h
theorem Vk.new_at {w : World} {g : Nat} (hg : g = w.heap.size) (x : V4) : Vk (w.alloc (.cells #[.int .i64 x.a, .int .i64 x.b, .int .i64 x.c, .int .i64 x.d] 24)) g x := by
  subst hg; exact heap_alloc_new w _
/-- A block that is one spot. -/
def Sk (t : TypeId) (w : World) (g : Nat) (x : Spt) : Prop := w.heap[g]? = some (.cells #[.int .i64 x.id, .int .i64 x.left.a, .int .i64 x.left.b, .int .i64 x.left.c, .int .i64 x.left.d] t (0, 0))

theorem Vk.set4 {w : World} {g : Nat} {y : V4} (h : Vk w g y) (x : V4) : Vk ((((w.setCell ⟨g, 0, none⟩ (.int .i64 x.a)).setCell ⟨g, 1, none⟩ (.int .i64 x.b)).setCell ⟨g, 2, none⟩ (.int .i64 x.c)).setCell ⟨g, 3, none⟩ (.int .i64 x.d)) g x := by
  have h1 := heap_setCell_same w g 0 _ _ (.int .i64 x.a) h
  have h2 := heap_setCell_same _ g 1 _ _ (.int .i64 x.b) h1
  have h3 := heap_setCell_same _ g 2 _ _ (.int .i64 x.c) h2
  have h4 := heap_setCell_same _ g 3 _ _ (.int .i64 x.d) h3
  unfold Vk
  rw [h4]; simp
theorem Vk.drew {w : World} {g : Nat} {x : V4} (h : Vk w g x) : Vk w.drew g x := h
end Go.Proofs.YtlckofoabnnlhaaDoor
