/- The reference's fit by contract: where the best spot is. Conditions: the spots lie in memory. -/
import Derived.Test.YtlckofoabnnlhaaDoorFtR
import Derived.Deep.CutBlock
namespace Go.Proofs.YtlckofoabnnlhaaDoor
open Go Go.RowKit

/-- A spot's five cells. -/
def SpAt (w : World) (g o : Nat) (s : Spt) : Prop := w.cell? ⟨g, o, none⟩ = some (.int .i64 s.id) ∧ w.cell? ⟨g, o + 1, none⟩ = some (.int .i64 s.left.a) ∧ w.cell? ⟨g, o + 2, none⟩ = some (.int .i64 s.left.b) ∧ w.cell? ⟨g, o + 3, none⟩ = some (.int .i64 s.left.c) ∧ w.cell? ⟨g, o + 4, none⟩ = some (.int .i64 s.left.d) ∧ g < w.heap.size ∧ ∀ j, w.frozen? ⟨g, j, none⟩ = false
theorem SpAt.on {w w' : World} {g o : Nat} {s : Spt} (h : SpAt w g o s) (hb : Below w.heap.size w w') : SpAt w' g o s := by
  obtain ⟨c0, c1, c2, c3, c4, hl, hf⟩ := h
  exact ⟨(hb.cell hl).trans c0, (hb.cell hl).trans c1, (hb.cell hl).trans c2, (hb.cell hl).trans c3, (hb.cell hl).trans c4, Nat.lt_of_lt_of_le hl hb.size, fun j => (hb.frozen hl).trans (hf j)⟩

end Go.Proofs.YtlckofoabnnlhaaDoor
