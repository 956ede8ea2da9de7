/- The reference's fit by contract: fits, and the place of the best spot. Conditions: the spots lie in memory. -/
import Derived.Test.YtejaljcgcmdlgaaDoorFtE
import Derived.Test.YtejaljcgcmdlgaaDoorRefAdd
import Derived.Test.YtejaljcgcmdlgaaDoorRgC
import Derived.Lib.Hide
import Derived.LoopTactic
import Derived.Deep.RegionHeld3
import Derived.Deep.DeepCutAuto
import Derived.Deep.CutBlock
import Derived.Deep.LoopGhost
namespace Go.Proofs.YtejaljcgcmdlgaaDoor
open Go Go.RowKit

/-- A block that is one vector. -/
def Vk (w : World) (g : Nat) (x : V4) : Prop := w.heap[g]? = some (.cells #[.int .i64 x.a, .int .i64 x.b, .int .i64 x.c, .int .i64 x.d] 31 (0, 0))
theorem Vk.cells {w : World} {g : Nat} {x : V4} (h : Vk w g x) : w.cell? ⟨g, 0, none⟩ = some (.int .i64 x.a) ∧ w.cell? ⟨g, 1, none⟩ = some (.int .i64 x.b) ∧ w.cell? ⟨g, 2, none⟩ = some (.int .i64 x.c) ∧ w.cell? ⟨g, 3, none⟩ = some (.int .i64 x.d) ∧ g < w.heap.size ∧ ∀ j, w.frozen? ⟨g, j, none⟩ = false :=
  ⟨cell_of_heap h 0, cell_of_heap h 1, cell_of_heap h 2, cell_of_heap h 3, lt_of_block h, frozen_of_heap h⟩
theorem Vk.on {w w' : World} {g : Nat} {x : V4} (h : Vk w g x) (hb : Below w.heap.size w w') : Vk w' g x := (hb.block g (lt_of_block h)).trans h
theorem Vk.new_at {w : World} {g : Nat} (hg : g = w.heap.size) (x : V4) : Vk (w.alloc (.cells #[.int .i64 x.a, .int .i64 x.b, .int .i64 x.c, .int .i64 x.d] 31)) g x := by
  subst hg; exact heap_alloc_new w _
/-- A block that is one spot. -/
def Sk (t : TypeId) (w : World) (g : Nat) (x : Spt) : Prop := w.heap[g]? = some (.cells #[.int .i64 x.id, .int .i64 x.left.a, .int .i64 x.left.b, .int .i64 x.left.c, .int .i64 x.left.d] t (0, 0))

set_option maxRecDepth 100000 in
set_option maxHeartbeats 1600000 in
theorem rfits16_c (s : Spt) (x : V4) (w : World) :
    Calls Tryd.prog 18 #[.agg #[.int .i64 s.id, .int .i64 s.left.a, .int .i64 s.left.b, .int .i64 s.left.c, .int .i64 s.left.d], .agg #[.int .i64 x.a, .int .i64 x.b, .int .i64 x.c, .int .i64 x.d]] w fun e w' => e = .returned (.tuple #[.agg #[.int .i64 (remS s x).a, .int .i64 (remS s x).b, .int .i64 (remS s x).c, .int .i64 (remS s x).d], .bool (decide (fitS s x))]) ∧ Below w.heap.size w w' := by
  have HC : Hid (∀ W, Calls Tryd.prog 25 #[.agg #[.int .i64 (s.left).a, .int .i64 (s.left).b, .int .i64 (s.left).c, .int .i64 (s.left).d], .agg #[.int .i64 x.a, .int .i64 x.b, .int .i64 x.c, .int .i64 x.d]] W fun e w' => e = .returned (.tuple #[.agg #[.int .i64 ((subR s.left x).1).a, .int .i64 ((subR s.left x).1).b, .int .i64 ((subR s.left x).1).c, .int .i64 ((subR s.left x).1).d], .int .i64 ((subR s.left x).2 : Nat)]) ∧ Below W.heap.size W w') := Lib.hid fun W => rsub_c s.left x W
  obtain ⟨r, hr⟩ : ∃ r, subR s.left x = r := ⟨_, rfl⟩
  rw [show decide (fitS s x) = ((subR s.left x).2 == 0) from by by_cases h0 : (subR s.left x).2 = 0 <;> simp [fitS, h0]]
  unfold remS
  rw [hr] at HC ⊢
  clear hr
  obtain ⟨⟨a, b, c, d⟩, m⟩ := r
  obtain ⟨W1, hW1⟩ : ∃ W1, W1 = ((w.alloc (.cells #[.int .i64 s.id, .int .i64 s.left.a, .int .i64 s.left.b, .int .i64 s.left.c, .int .i64 s.left.d] 34)).alloc (.cells #[.int .i64 x.a, .int .i64 x.b, .int .i64 x.c, .int .i64 x.d] 31)).alloc (.cells #[.int .i64 0, .int .i64 0, .int .i64 0, .int .i64 0] 31) := ⟨_, rfl⟩
  go_enter Tryd.func18, Tryd.ntmps18
  go_wp2_with fail
  refine (HC.out _).mono ?_
  rintro e w1 ⟨rfl, b1⟩
  rw [← hW1] at b1
  have hsz : W1.heap.size = w.heap.size + 3 := by rw [hW1]; simp
  have hb1 : Below w.heap.size w W1 := by rw [hW1]; exact (((Below.refl _ _).alloc (Nat.le_refl _) _).alloc (by simp) _).alloc (by simp; omega) _
  have hz : Vk W1 (w.heap.size + 1 + 1) ⟨0, 0, 0, 0⟩ := by
    rw [hW1]; exact Vk.new_at (by simp) ⟨0, 0, 0, 0⟩
  have hz1 : Vk w1 (w.heap.size + 1 + 1) ⟨0, 0, 0, 0⟩ := hz.on b1
  have hl1 := b1.size
  rw [hsz] at hl1
  have HB1 : Hid (Below w.heap.size w w1) := Lib.hid (hb1.trans (b1.mono (by omega)))
  obtain ⟨z0, z1, z2, z3, zl, zf⟩ := hz1.cells
  clear hz1 hz hb1 hW1 b1 hsz
  have hg0 : w.heap.size ≤ w.heap.size + 1 + 1 := by omega
  generalize w.heap.size + 1 + 1 = g at *
  go_wp2_with fail
  have hm0 : ((m : Int) == 0) = (m == 0) := by rw [Bool.eq_iff_iff]; simp
  refine bodyPost_ret (v := .tuple #[.agg #[.int .i64 a, .int .i64 b, .int .i64 c, .int .i64 d], .bool (m == 0)]) (by simp [results, Tryd.results18, go_sem, z0, z1, z2, z3, zl, hm0]) rfl ⟨rfl, ?_⟩
  have hb := HB1.out
  exact ((((hb.setCell (p := ⟨g, 0, none⟩) hg0 _).setCell (p := ⟨g, 1, none⟩) hg0 _).setCell (p := ⟨g, 2, none⟩) hg0 _).setCell (p := ⟨g, 3, none⟩) hg0 _).alloc (by simp only [World.size_setCell]; exact hb.size) _

theorem Vk.set4 {w : World} {g : Nat} {y : V4} (h : Vk w g y) (x : V4) : Vk ((((w.setCell ⟨g, 0, none⟩ (.int .i64 x.a)).setCell ⟨g, 1, none⟩ (.int .i64 x.b)).setCell ⟨g, 2, none⟩ (.int .i64 x.c)).setCell ⟨g, 3, none⟩ (.int .i64 x.d)) g x := by
  have h1 := heap_setCell_same w g 0 _ _ (.int .i64 x.a) h
  have h2 := heap_setCell_same _ g 1 _ _ (.int .i64 x.b) h1
  have h3 := heap_setCell_same _ g 2 _ _ (.int .i64 x.c) h2
  have h4 := heap_setCell_same _ g 3 _ _ (.int .i64 x.d) h3
  unfold Vk
  rw [h4]; simp
theorem Vk.drew {w : World} {g : Nat} {x : V4} (h : Vk w g x) : Vk w.drew g x := h
end Go.Proofs.YtejaljcgcmdlgaaDoor
