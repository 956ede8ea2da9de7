/- cmp.Or at two numbers; what a sort by a comparison leaves. No conditions. -/
import Derived.Test.YtbfbhlpibclccaaDoorCmp
import Derived.Shelf.SlSortCmp.WholeK
import Derived.LoopTactic
import Derived.Handy
import Derived.Lib.Hide
namespace Go.Proofs.YtbfbhlpibclccaaDoor
open Go Go.RowKit Go.Sort

/-- The first of two that is not 0. -/
def or2 (a b : Int) : Int := if a ≠ 0 then a else b
set_option maxRecDepth 100000 in
/-- cmp.Or at two numbers in a block. -/
theorem or2_c (g : Nat) (a b : Int) (W : World) (h : W.heap[g]? = some (.cells #[.int .i64 a, .int .i64 b] 3 (0, 0))) :
    Calls Tryd.prog 75 #[.slice (some ⟨g, 0, none⟩) 2 2] W fun e w' => e = .returned (.int .i64 (or2 a b)) ∧ w' = W := by
  have c0 := cell_of_heap h 0
  have c1 := cell_of_heap h 1
  simp at c0 c1
  clear h
  by_cases h0 : a = 0
  · subst h0
    by_cases h1 : b = 0
    · subst h1
      rw [show or2 0 0 = 0 from rfl]
      go_enter Tryd.func75, Tryd.ntmps75
      go_wp2
      go_rounds 3
      go_ret
      exact ⟨rfl, rfl⟩
    · have e1 : (b != 0) = true := by simpa using h1
      rw [show or2 0 b = b from rfl]
      clear h1
      go_enter Tryd.func75, Tryd.ntmps75
      go_wp2
      go_rounds 3
      refine bodyPost_ret (v := .int .i64 b) (by simp [results, Tryd.results75, go_sem]) rfl ?_
      exact ⟨rfl, rfl⟩
  · have e0 : (a != 0) = true := by simpa using h0
    rw [show or2 a b = a from if_pos h0]
    clear h0
    go_enter Tryd.func75, Tryd.ntmps75
    go_wp2
    go_rounds 3
    refine bodyPost_ret (v := .int .i64 a) (by simp [results, Tryd.results75, go_sem]) rfl ?_
    exact ⟨rfl, rfl⟩

theorem heap_at_new {W : World} {g : Nat} (hg : g = W.heap.size) (o : Obj) : (W.alloc o).heap[g]? = some o := by subst hg; exact heap_alloc_new W o
theorem perm_sortedG {α : Type} [Inhabited α] {cf : α → α → Int} {L : List α} {d' : Array α} (h : PermIn 0 L.toArray.size L.toArray d') (hs : SortedIn (ltOf cf) 0 L.toArray.size d') : d'.toList.Perm L ∧ d'.toList.Pairwise fun a b => ltOf cf b a = false := by
  obtain ⟨h1, _, h3⟩ := h
  have e1 : d'.extract 0 L.toArray.size = d' := by rw [← h1]; simp
  have e2 : L.toArray.extract 0 L.toArray.size = L.toArray := by simp
  rw [e1, e2] at h3
  refine ⟨by simpa using h3, ?_⟩
  refine List.pairwise_iff_getElem.2 fun i j hi hj hij => ?_
  have hj' : j < L.toArray.size := by rw [← h1]; simpa using hj
  have := hs i j (Nat.zero_le _) hij hj'
  rw [getElem!_pos d' j (by simpa using hj), getElem!_pos d' i (by simpa using hi)] at this
  simpa using this

end Go.Proofs.YtbfbhlpibclccaaDoor
