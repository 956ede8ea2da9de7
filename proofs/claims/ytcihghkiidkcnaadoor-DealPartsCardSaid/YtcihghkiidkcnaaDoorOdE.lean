/- Orders of the program and of the reference: their form, their equality. No conditions. -/
import Derived.Test.YtcihghkiidkcnaaDoorOdR
import Derived.Laws.StructEq
import Derived.Deep.RegionHeld3
namespace Go.Proofs.YtcihghkiidkcnaaDoor
open Go Go.RowKit

theorem add_cellE (a : Addr) (m r : Nat) (hr : r ≠ 0) : a.add (m + r) = ⟨(a.add m).block, (a.add m).off + r, none⟩ := by
  unfold Addr.add; split <;> split <;> simp_all <;> omega

end Go.Proofs.YtcihghkiidkcnaaDoor
