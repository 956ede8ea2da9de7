/- A slice of truth values that came in, as a row. No conditions. -/
import Derived.Test.YtbfbhlpibclccaaDoorLieO
import Derived.Test.YtbfbhlpibclccaaDoorSqF
namespace Go.Proofs.YtbfbhlpibclccaaDoor
open Go Go.ChangeShapes Go.WideShapes Go.ChangeAt Go.WideMaps Go.WideElems Go.RowKit

section
variable {H : Type} {enc : TypeId × Value → H} {w : World} {base : Nat} {spare : Nat → Bool} {held : Bool}
set_option maxRecDepth 100000 in
theorem open_boolQ {v : Value} {d : DataW H} {ps : List MemPlace} (hv : Value.okWide Tryd.prog w .any base 92 v) (h : DataW.Trod enc Tryd.prog w 0 spare held 92 v d ps) :
    ∃ (A : Option Addr) (c : Nat) (xs : List Bool), v = .slice A xs.length c ∧ LiesE encB w (.slice A xs.length c) xs ∧ (∀ x ∈ xs, True) ∧ xs.length ≤ 9223372036854775807 ∧ xs.length ≤ c :=
  open_lies encB (fun _ => True) (by decide) (by kernel_rfl) (by kernel_rfl) (fun _ _ _ h => by
    obtain ⟨n, h1, _⟩ := DataW.trod_bool Tryd.underlying4 h
    exact ⟨n, h1, trivial⟩) hv h
end
end Go.Proofs.YtbfbhlpibclccaaDoor
