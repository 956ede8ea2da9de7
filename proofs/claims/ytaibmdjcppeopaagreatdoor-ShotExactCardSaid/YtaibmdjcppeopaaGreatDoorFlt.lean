/- A Fault of a form that is wrong, as memory holds it. No conditions. -/
import Derived.Test.YtaibmdjcppeopaaGreatDoorChg
import Derived.Test.YtaibmdjcppeopaaGreatDoorErrs
namespace Go.Proofs.YtaibmdjcppeopaaGreatDoor
open Go Go.RowKit

/-- The Fault of what is wrong at a place. -/
def faultRow (s : Nat → Addr) (op : ByteArray) (b : Nat) : Array Value := #[.string op, .int .i64 (b : Int), .iface 157 (.pointer (some (s 2)))]
/-- A Fault that was made. -/
def FaultV (s : Nat → Addr) (w : World) (op : ByteArray) (b : Nat) (ev : Value) : Prop := ∃ g, ev = .iface 127 (.pointer (some ⟨g, 0, none⟩)) ∧ w.heap[g]? = some (.cells (faultRow s op b) 129 (0, 0))
theorem FaultV.below {s : Nat → Addr} {w w' : World} {op : ByteArray} {b B : Nat} {ev : Value} (h : FaultV s w op b ev) (hb : Below B w w') (hB : w.heap.size ≤ B) : FaultV s w' op b ev := by
  obtain ⟨g, h1, h2⟩ := h
  exact ⟨g, h1, (hb.block g (Nat.lt_of_lt_of_le (Array.getElem?_eq_some_iff.1 h2).1 hB)).trans h2⟩
theorem FaultV.drewN {s : Nat → Addr} {w : World} {op : ByteArray} {b : Nat} {ev : Value} (h : FaultV s w op b ev) (n : Nat) : FaultV s (w.drewN n) op b ev := h
theorem FaultV.drew {s : Nat → Addr} {w : World} {op : ByteArray} {b : Nat} {ev : Value} (h : FaultV s w op b ev) : FaultV s w.drew op b ev := h
end Go.Proofs.YtaibmdjcppeopaaGreatDoor
