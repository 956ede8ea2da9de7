/- The reference's book of stage 13 by contracts: Drop. Conditions: the book is one that the calls have made. -/
import Derived.Test.YtcihghkiidkcnaaDoorOdR
import Derived.IntWalk
namespace Go.Proofs.YtcihghkiidkcnaaDoor
open Go Go.RowKit

theorem heap_atE {W : World} {g : Nat} (hg : g = W.heap.size) (o : Obj) : (W.alloc o).heap[g]? = some o := by subst hg; exact heap_alloc_new W o
theorem Chg.wide {p q : Nat} {w w' : World} (h : Chg p p w w') : Chg p q w w' := ⟨h.os, h.tape, h.output, h.size, fun k hk h1 _ => h.block k hk h1 h1⟩
end Go.Proofs.YtcihghkiidkcnaaDoor
