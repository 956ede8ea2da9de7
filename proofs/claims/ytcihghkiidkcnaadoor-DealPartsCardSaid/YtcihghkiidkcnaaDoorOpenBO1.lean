/- How an order that came in reads. -/
import Derived.Test.YtcihghkiidkcnaaDoorOpenBOd
import Derived.OpenShut
namespace Go.Proofs.YtcihghkiidkcnaaDoor
open Go Go.ChangeShapes Go.WideShapes Go.ChangeAt Go.WideMaps Go.WideElems Go.RowKit

theorem open_od1 {H : Type} {enc : TypeId × Value → H} {w : World} {base : Nat} {spare : Nat → Bool} {held : Bool} {v : Value} {d : DataW H} {ps : List MemPlace} (h : DataW.Trod enc Tryd.prog w base spare held 27 v d ps) :
    ∃ z : Od, v = .agg #[.int .i64 z.id, .int .i64 z.tn, .bool z.sell, .int .i64 z.price, .int .i64 z.lots, .int .i64 z.seq] ∧ GoodBOd z := by
  obtain ⟨fuel, hf⟩ := h
  obtain ⟨z, hcs, hg⟩ := cells_BOd hf
  refine ⟨z, ?_, hg⟩
  cases v with
  | agg cs =>
    obtain ⟨l⟩ := cs
    have : l = [.int .i64 z.id, .int .i64 z.tn, .bool z.sell, .int .i64 z.price, .int .i64 z.lots, .int .i64 z.seq] := hcs
    rw [this]
  | _ => simp [Value.cells] at hcs
end Go.Proofs.YtcihghkiidkcnaaDoor
