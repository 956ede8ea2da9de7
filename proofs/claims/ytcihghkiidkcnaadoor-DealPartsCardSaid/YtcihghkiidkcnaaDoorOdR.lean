/- The reference's book of stage 13 by contracts: an order's six cells, Good, ahead, At. Conditions: the book is one that the calls have made. -/
import Derived.Test.YtcihghkiidkcnaaDoorOdM
import Derived.Test.YtcihghkiidkcnaaDoorRwK
import Derived.Test.YtcihghkiidkcnaaDoorErrs
import Derived.LoopTactic
import Derived.Lib.Hide
import Derived.Deep.QuietTactic
namespace Go.Proofs.YtcihghkiidkcnaaDoor
open Go Go.RowKit

def encOd : EncK Od 6 where
  enc x := [.int .i64 x.id, .int .i64 x.tn, .bool x.sell, .int .i64 x.price, .int .i64 x.lots, .int .i64 x.seq]
  len _ := rfl
  one x u hu := by simp at hu; rcases hu with rfl | rfl | rfl | rfl | rfl | rfl <;> rfl
theorem ret_b {a b : Bool} (h : a = b) : Ending.returned (.bool a) = .returned (.bool b) := by rw [h]

end Go.Proofs.YtcihghkiidkcnaaDoor
