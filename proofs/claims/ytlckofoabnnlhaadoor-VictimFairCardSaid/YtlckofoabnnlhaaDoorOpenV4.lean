/- How vectors, keys and places that came in read. -/
import Derived.Test.YtlckofoabnnlhaaDoorNums
import Derived.Test.YtlckofoabnnlhaaDoorI64
import Derived.OpenShut
namespace Go.Proofs.YtlckofoabnnlhaaDoor
open Go Go.ChangeShapes Go.WideShapes Go.ChangeAt Go.WideMaps Go.WideElems Go.RowKit

section
variable {H : Type} {enc : TypeId × Value → H} {w : World} {base : Nat} {spare : Nat → Bool} {held : Bool}
theorem int_cellV {fuel : Nat} {c : Value} {z : DataW H × List MemPlace} (h : DataW.trod enc Tryd.prog w base spare held fuel 3 [c] = some z) : ∃ n, c = .int .i64 n ∧ i64 n := by
  obtain ⟨n, hn, _, hi⟩ := DataW.trod_int Tryd.underlying3 h
  exact ⟨n, by simpa using hn, i64_lo hi, i64_hi hi⟩
/-- A vector's four cells. -/
theorem v4_cells {fuel : Nat} {cs : List Value} {x : DataW H × List MemPlace} (h : DataW.trod enc Tryd.prog w base spare held fuel 24 cs = some x) : ∃ z : V4, cs = [.int .i64 z.a, .int .i64 z.b, .int .i64 z.c, .int .i64 z.d] ∧ okV z := by
  obtain ⟨xs, m, _, hx, hlen, hxl, hel⟩ := DataW.trod_array (show Tryd.prog.underlying 24 = some (.array 4 3) by kernel_rfl) h
  have c4 : Tryd.prog.cellsOf 24 = 4 := by kernel_rfl
  have c1 : Tryd.prog.cellsOf 3 = 1 := by kernel_rfl
  rw [c4] at hlen
  rw [c1] at hel
  have hsome : ∀ i, i < 4 → ∃ z, xs[i]? = some z := fun i hi => ⟨_, List.getElem?_eq_getElem (by omega)⟩
  obtain ⟨k0, k1, k2, k3, rfl⟩ : ∃ k0 k1 k2 k3, cs = [k0, k1, k2, k3] := by
    match cs, hlen with
    | [a, b, c, e], _ => exact ⟨a, b, c, e, rfl⟩
  obtain ⟨z0, e0⟩ := hsome 0 (by omega)
  obtain ⟨z1, e1⟩ := hsome 1 (by omega)
  obtain ⟨z2, e2⟩ := hsome 2 (by omega)
  obtain ⟨z3, e3⟩ := hsome 3 (by omega)
  obtain ⟨n0, rfl, i0⟩ := int_cellV ((hel 0 (by omega)).trans e0)
  obtain ⟨n1, rfl, i1⟩ := int_cellV ((hel 1 (by omega)).trans e1)
  obtain ⟨n2, rfl, i2⟩ := int_cellV ((hel 2 (by omega)).trans e2)
  obtain ⟨n3, rfl, i3⟩ := int_cellV ((hel 3 (by omega)).trans e3)
  exact ⟨⟨n0, n1, n2, n3⟩, rfl, i0, i1, i2, i3⟩
end
end Go.Proofs.YtlckofoabnnlhaaDoor
