/- The reference's fit by contract: where the best spot is. Conditions: the spots lie in memory. -/
import Derived.Test.YtlckofoabnnlhaaDoorFtT
import Derived.Test.YtlckofoabnnlhaaDoorRgo
import Derived.Deep.CutBlock
namespace Go.Proofs.YtlckofoabnnlhaaDoor
open Go Go.RowKit

theorem eqVd16 (x y : V4) (w : World) : (Op.equalIn 10000 24 (.agg #[.int .i64 x.a, .int .i64 x.b, .int .i64 x.c, .int .i64 x.d]) (.agg #[.int .i64 y.a, .int .i64 y.b, .int .i64 y.c, .int .i64 y.d])).run Tryd.prog w = .ok (decide (x = y)) w := by
  rw [eqV]
  congr 1
  rw [Bool.eq_iff_iff]
  simp only [Bool.and_eq_true, beq_iff_eq, decide_eq_true_eq]
  exact ⟨fun h => V4.eq h.1 h.2.1 h.2.2.1 h.2.2.2, fun h => by rw [h]; exact ⟨rfl, rfl, rfl, rfl⟩⟩

end Go.Proofs.YtlckofoabnnlhaaDoor
