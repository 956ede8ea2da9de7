/- How a machine of the program lies in memory: seven cells. No conditions. -/
import Derived.Test.YtaenpajmgenjhaaDoorPkG
import Derived.Test.YtaenpajmgenjhaaDoorRwK
namespace Go.Proofs.YtaenpajmgenjhaaDoor
open Go Go.RowKit

def encMc : EncK Mc 7 where
  enc x := [.int .i64 x.id, .int .i64 x.cell, .int .i64 x.has.a, .int .i64 x.has.b, .int .i64 x.has.c, .int .i64 x.has.d, .int .i64 x.st]
  len _ := rfl
  one x u hu := by simp at hu; rcases hu with rfl | rfl | rfl | rfl | rfl | rfl | rfl <;> rfl
end Go.Proofs.YtaenpajmgenjhaaDoor
