/- How a slice of numbers that came in reads. No conditions. -/
import Derived.Test.YtfikkjdkgigikaaDoorOpenV4
import Derived.Test.YtfikkjdkgigikaaDoorLieO
import Derived.Test.YtfikkjdkgigikaaDoorRdE
namespace Go.Proofs.YtfikkjdkgigikaaDoor
open Go Go.ChangeShapes Go.WideShapes Go.ChangeAt Go.WideMaps Go.WideElems Go.RowKit

section
variable {H : Type} {enc : TypeId × Value → H} {w : World} {base : Nat} {spare : Nat → Bool} {held : Bool}
set_option maxRecDepth 100000 in
theorem open_ints16 {v : Value} {d : DataW H} {ps : List MemPlace} (hv : Value.okWide Tryd.prog w .any base 67 v) (h : DataW.Trod enc Tryd.prog w 0 spare held 67 v d ps) :
    ∃ (A : Option Addr) (c : Nat) (xs : List Int), v = .slice A xs.length c ∧ LiesE encI w (.slice A xs.length c) xs ∧ (∀ x ∈ xs, i64 x) ∧ xs.length ≤ 9223372036854775807 ∧ xs.length ≤ c :=
  open_lies encI i64 (by decide) (by kernel_rfl) (by kernel_rfl) (fun _ cs _ h => by
    have cN : Tryd.prog.cellsOf 3 = 1 := by kernel_rfl
    obtain ⟨n, hn, _, hi⟩ := DataW.trod_int Tryd.underlying3 h
    exact ⟨n, hn, i64_lo hi, i64_hi hi⟩) hv h
end
end Go.Proofs.YtfikkjdkgigikaaDoor
