/- The errors of this program by contracts: what errors.Is answers of nil, of a sentinel, and of a Fault that wraps a sentinel. Condition: the sentinels that the program names lie where the program's text lays them. -/
import Derived.Test.YtejaljcgcmdlgaaDoorProg
import Derived.WalkKit
import Derived.LaidEql
import Derived.Stop.Asserts
import Derived.RowKitTokens
import Derived.BigQuiet
import Derived.Outline
import Derived.Handy
namespace Go.Proofs.YtejaljcgcmdlgaaDoor
open Go Go.RowKit Go.Extern.Stop Go.Stop Go.Extern

/-- An error value: none, or the sentinel of the place k - 1. -/
def errV (s : Nat → Addr) (k : Nat) : Value := if k = 0 then .nilIface else .iface 61 (.pointer (some (s (k - 1))))
/-- The package variable that holds the sentinel of a place. -/
def gnum (i : Nat) : Nat := [0, 0, 0, 1, 0, 0, 0, 0, 0, 0, 0, 0, 0, 0].getD i 0

/-- What is known of the package variables in a world. -/
structure Sent (s : Nat → Addr) (w : World) : Prop where
  cell : ∀ i, (i = 0 ∨ i = 3) → w.cell? ⟨gnum i, 0, none⟩ = some (.iface 61 (.pointer (some (s i))))
  row : ∀ i, (i = 0 ∨ i = 3) → ∃ cs t, w.heap[(s i).block]? = some (.cells cs t (0, 0))
  inj : ∀ i j, (i = 0 ∨ i = 3) → (j = 0 ∨ j = 3) → s i = s j → i = j

theorem lt_of_cell {w : World} {p : Addr} {v : Value} (h : w.cell? p = some v) : p.block < w.heap.size := by
  rcases Nat.lt_or_ge p.block w.heap.size with h1 | h1
  · exact h1
  · simp [World.cell?, Array.getElem?_eq_none h1] at h
theorem lt_of_row {w : World} {b : Nat} {o : Obj} (h : w.heap[b]? = some o) : b < w.heap.size := by
  rcases Nat.lt_or_ge b w.heap.size with h1 | h1
  · exact h1
  · rw [Array.getElem?_eq_none h1] at h; cases h

theorem Sent.below {s : Nat → Addr} {w w' : World} (h : Sent s w) {B : Nat} (hb : Below B w w') (hB : w.heap.size ≤ B) : Sent s w' where
  cell := fun i hi => (hb.cell (p := ⟨gnum i, 0, none⟩) (Nat.lt_of_lt_of_le (lt_of_cell (h.cell i hi)) hB)).trans (h.cell i hi)
  row := fun i hi => by
    obtain ⟨cs, t, hr⟩ := h.row i hi
    exact ⟨cs, t, (hb.block _ (Nat.lt_of_lt_of_le (lt_of_row hr) hB)).trans hr⟩
  inj := h.inj


theorem Tryd.isComp : (Tryd.prog.info? 61).map (·.comparable) = some true := by kernel_rfl
theorem Tryd.isSize : (Tryd.prog.info? 79).map (·.size) = some 1 := by kernel_rfl
/-- The model's entry for the method Comparable of a type. -/
def entComparable : Array Value → Sem Value := Extern.ReflectliteType.method fun t => do Extern.Rtype.noPackHeld "Comparable" t; pure (.bool (← typeInfo t).comparable)
theorem Tryd.isComparable (w : World) : (entComparable #[.agg #[.pointer (some ⟨2, 61, none⟩)]]).run Tryd.prog w = .ok (.bool true) w := by kernel_rfl

end Go.Proofs.YtejaljcgcmdlgaaDoor
