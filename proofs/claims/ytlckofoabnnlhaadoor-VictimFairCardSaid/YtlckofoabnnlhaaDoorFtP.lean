/- The program's fit, as the laws ask it, and the law's own awake. Conditions: the program's three functions keep their contracts (FitC). -/
import Derived.Test.YtlckofoabnnlhaaDoorFtW
import Derived.Test.YtlckofoabnnlhaaDoorRwL
namespace Go.Proofs.YtlckofoabnnlhaaDoor
open Go Go.RowKit

/-- The number of the best. -/
def idS : Option (Nat × Spt) → Int
  | none => 0
  | some (_, t) => t.id
theorem reads_lit {α : Type} {n : Nat} (E : EncK α n) {w : World} {g : Nat} {t : TypeId} (L : List α) (h : w.heap[g]? = some (.cells (cellsE E L).toArray t (0, 0))) : ReadsE E w (some ⟨g, 0, none⟩) L := fun i x hi => by
  refine ⟨_, ⟨g, i * n, none⟩, rfl, by rw [Addr.add_lit, Nat.zero_add], lt_of_block h, fun r u hu => ?_⟩
  have hr : r < n := by
    have := (List.getElem?_eq_some_iff.1 hu).1
    rwa [E.len] at this
  rw [Addr.add_lit, cell_of_heap h, List.getElem?_toArray, cellsE_get E L i r hi hr]
  exact hu

end Go.Proofs.YtlckofoabnnlhaaDoor
