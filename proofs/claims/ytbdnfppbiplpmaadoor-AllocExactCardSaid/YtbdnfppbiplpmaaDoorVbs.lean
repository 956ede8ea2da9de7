/- A vector in a block of its own, across calls. No conditions. -/
import Derived.Test.YtbdnfppbiplpmaaDoorSum
namespace Go.Proofs.YtbdnfppbiplpmaaDoor
open Go Go.RowKit

theorem Vb.step {w w' : World} {g : Nat} {x : V4} {o : Obj} (h : Vb w g x) (hb : Below (w.alloc o).heap.size (w.alloc o) w') : Vb w' g x :=
  (h.alloc o).below hb (lt_of_row (h.alloc o))
theorem Vb.step0 {w w' : World} {g : Nat} {x : V4} (h : Vb w g x) (hb : Below w.heap.size w w') : Vb w' g x := h.below hb (lt_of_row h)
theorem Vb.fresh {w w' : World} (x : V4) (hb : Below (w.alloc (.cells #[.int .i64 x.a, .int .i64 x.b, .int .i64 x.c, .int .i64 x.d] 34)).heap.size (w.alloc (.cells #[.int .i64 x.a, .int .i64 x.b, .int .i64 x.c, .int .i64 x.d] 34)) w') : Vb w' w.heap.size x :=
  (Vb.new w x).below hb (by simp)
end Go.Proofs.YtbdnfppbiplpmaaDoor
