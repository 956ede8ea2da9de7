/- How a spot lies in memory: five cells. No conditions. -/
import Derived.Test.YtlckofoabnnlhaaDoorFtM
import Derived.Test.YtlckofoabnnlhaaDoorRwT
namespace Go.Proofs.YtlckofoabnnlhaaDoor
open Go Go.RowKit

def encSpt : EncK Spt 5 where
  enc x := [.int .i64 x.id, .int .i64 x.left.a, .int .i64 x.left.b, .int .i64 x.left.c, .int .i64 x.left.d]
  len _ := rfl
  one x u hu := by simp at hu; rcases hu with rfl | rfl | rfl | rfl | rfl <;> rfl
theorem Tryd.infoPS : (Tryd.prog.info? 82).map (fun i => (i.zero, i.size, i.bytes)) = some (some (.agg #[.int .i64 0, .int .i64 0, .int .i64 0, .int .i64 0, .int .i64 0]), 5, 40) := by kernel_rfl
end Go.Proofs.YtlckofoabnnlhaaDoor
