/- JobExact: boxes held through reads. No conditions. -/
import Derived.Test.YtbfbhlpibclccaaDoorJxYe
import Derived.Test.YtbfbhlpibclccaaDoorJxYa
import Derived.Test.YtbfbhlpibclccaaDoorRgo
import Derived.Test.YtbfbhlpibclccaaDoorRgC
import Derived.Deep.DeepCutAuto
import Derived.Deep.CutBlock
import Derived.Deep.RegionHeld3
import Derived.Deep.QuietTactic
import Derived.StillTailTactics
namespace Go.Proofs.YtbfbhlpibclccaaDoor
open Go Go.RowKit Go.Maps Go.Sort

theorem part_list {Y E : List Value} {k n : Nat} (h : (Y.drop k).take n = E) {j : Nat} {v : Value} (hv : E[j]? = some v) : Y[k + j]? = some v := by
  subst h
  rw [List.getElem?_take] at hv
  split at hv
  · rwa [List.getElem?_drop] at hv
  · cases hv
/-- Part of a box of cells, held. -/
theorem held_box {w : World} {g k n : Nat} {Y : Array Value} {t : TypeId} {E : List Value} (h : w.heap[g]? = some (.cells Y t (0, 0))) (hE : (Y.toList.drop k).take n = E) :
    ∀ W, HS35 w W → ∀ j v, E[j]? = some v → W.cell? ((⟨g, k, none⟩ : Addr).add j) = some v := fun W hW j v hv => by
  have hp := part_list hE hv
  have hc : w.cell? ⟨g, k + j, none⟩ = some v := by rw [cell_of_heap h, ← hp]; simp
  rw [Addr.add_lit]
  exact (hW.cell (p := ⟨g, k + j, none⟩) (lt_of_cell hc)).trans hc
theorem few_tasks (sel : JE → Int → Bool) {L : List JE} (h : GJ L) : (tasksJ sel L).length ≤ 100000 := by
  have h1 := tasksJ_len sel (L := L) fun e he => (h.len he).2
  have h2 := h.few
  omega

end Go.Proofs.YtbfbhlpibclccaaDoor
