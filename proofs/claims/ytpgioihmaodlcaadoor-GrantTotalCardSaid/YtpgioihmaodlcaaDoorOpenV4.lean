/- How vectors, keys and places that came in read. -/
import Derived.Test.YtpgioihmaodlcaaDoorNums
import Derived.Test.YtpgioihmaodlcaaDoorKeyV
import Derived.OpenShut
namespace Go.Proofs.YtpgioihmaodlcaaDoor
open Go Go.ChangeShapes Go.WideShapes Go.ChangeAt Go.WideMaps Go.WideElems Go.RowKit

section
variable {H : Type} {enc : TypeId × Value → H} {w : World} {base : Nat} {spare : Nat → Bool} {held : Bool}
theorem int_cellV {fuel : Nat} {c : Value} {z : DataW H × List MemPlace} (h : DataW.trod enc Tryd.prog w base spare held fuel 3 [c] = some z) : ∃ n, c = .int .i64 n ∧ i64 n := by
  obtain ⟨n, hn, _, hi⟩ := DataW.trod_int Tryd.underlying3 h
  exact ⟨n, by simpa using hn, i64_lo hi, i64_hi hi⟩
/-- A vector's four cells. -/
theorem v4_cells {fuel : Nat} {cs : List Value} {x : DataW H × List MemPlace} (h : DataW.trod enc Tryd.prog w base spare held fuel 29 cs = some x) : ∃ z : V4, cs = [.int .i64 z.a, .int .i64 z.b, .int .i64 z.c, .int .i64 z.d] ∧ okV z := by
  obtain ⟨xs, m, _, hx, hlen, hxl, hel⟩ := DataW.trod_array (show Tryd.prog.underlying 29 = some (.array 4 3) by kernel_rfl) h
  have c4 : Tryd.prog.cellsOf 29 = 4 := by kernel_rfl
  have c1 : Tryd.prog.cellsOf 3 = 1 := by kernel_rfl
  rw [c4] at hlen
  rw [c1] at hel
  have hsome : ∀ i, i < 4 → ∃ z, xs[i]? = some z := fun i hi => ⟨_, List.getElem?_eq_getElem (by omega)⟩
  obtain ⟨k0, k1, k2, k3, rfl⟩ : ∃ k0 k1 k2 k3, cs = [k0, k1, k2, k3] := by
    match cs, hlen with
    | [a, b, c, e], _ => exact ⟨a, b, c, e, rfl⟩
  obtain ⟨z0, e0⟩ := hsome 0 (by omega)
  obtain ⟨z1, e1⟩ := hsome 1 (by omega)
  obtain ⟨z2, e2⟩ := hsome 2 (by omega)
  obtain ⟨z3, e3⟩ := hsome 3 (by omega)
  obtain ⟨n0, rfl, i0⟩ := int_cellV ((hel 0 (by omega)).trans e0)
  obtain ⟨n1, rfl, i1⟩ := int_cellV ((hel 1 (by omega)).trans e1)
  obtain ⟨n2, rfl, i2⟩ := int_cellV ((hel 2 (by omega)).trans e2)
  obtain ⟨n3, rfl, i3⟩ := int_cellV ((hel 3 (by omega)).trans e3)
  exact ⟨⟨n0, n1, n2, n3⟩, rfl, i0, i1, i2, i3⟩
set_option maxRecDepth 100000 in
/-- A place's three cells. -/
theorem place_cells {fuel : Nat} {cs : List Value} {x : DataW H × List MemPlace} (h : DataW.trod enc Tryd.prog w base spare held fuel 24 cs = some x) : ∃ a b c : Int, cs = [.int .i64 a, .int .i64 b, .int .i64 c] ∧ i64 a ∧ i64 b ∧ i64 c := by
  obtain ⟨xs, m, _, hx, hlen, hxl, hg⟩ := DataW.trod_struct Tryd.underlying24 h
  have c3 : Tryd.prog.cellsOf 24 = 3 := by kernel_rfl
  have c1 : Tryd.prog.cellsOf 3 = 1 := by kernel_rfl
  rw [c3] at hlen
  have hl3 : xs.length = 3 := hxl
  obtain ⟨k0, k1, k2, rfl⟩ : ∃ k0 k1 k2, cs = [k0, k1, k2] := by
    match cs, hlen with
    | [a, b, c], _ => exact ⟨a, b, c, rfl⟩
  have hsome : ∀ i, i < 3 → ∃ z, xs[i]? = some z := fun i hi => ⟨_, List.getElem?_eq_getElem (by omega)⟩
  have g0 : DataW.trod enc Tryd.prog w base spare held m 3 [k0] = xs[0]? := by
    have := hg 0 _ rfl
    change DataW.trod enc Tryd.prog w base spare held m 3 (([k0, k1, k2].drop 0).take (Tryd.prog.cellsOf 3)) = xs[0]? at this
    rw [c1] at this; exact this
  have g1 : DataW.trod enc Tryd.prog w base spare held m 3 [k1] = xs[1]? := by
    have := hg 1 _ rfl
    change DataW.trod enc Tryd.prog w base spare held m 3 (([k0, k1, k2].drop 1).take (Tryd.prog.cellsOf 3)) = xs[1]? at this
    rw [c1] at this; exact this
  have g2 : DataW.trod enc Tryd.prog w base spare held m 3 [k2] = xs[2]? := by
    have := hg 2 _ rfl
    change DataW.trod enc Tryd.prog w base spare held m 3 (([k0, k1, k2].drop 2).take (Tryd.prog.cellsOf 3)) = xs[2]? at this
    rw [c1] at this; exact this
  obtain ⟨z0, e0⟩ := hsome 0 (by omega)
  obtain ⟨z1, e1⟩ := hsome 1 (by omega)
  obtain ⟨z2, e2⟩ := hsome 2 (by omega)
  obtain ⟨n0, rfl, i0⟩ := int_cellV (g0.trans e0)
  obtain ⟨n1, rfl, i1⟩ := int_cellV (g1.trans e1)
  obtain ⟨n2, rfl, i2⟩ := int_cellV (g2.trans e2)
  exact ⟨n0, n1, n2, rfl, i0, i1, i2⟩
set_option maxRecDepth 100000 in
/-- A key's four cells. -/
theorem key_cells {fuel : Nat} {cs : List Value} {x : DataW H × List MemPlace} (h : DataW.trod enc Tryd.prog w base spare held fuel 31 cs = some x) : ∃ z : V4, cs = [.int .i64 z.a, .int .i64 z.b, .int .i64 z.c, .int .i64 z.d] ∧ okV z := by
  obtain ⟨xs, m, _, hx, hlen, hxl, hg⟩ := DataW.trod_struct Tryd.underlying31 h
  have c4 : Tryd.prog.cellsOf 31 = 4 := by kernel_rfl
  have c3 : Tryd.prog.cellsOf 24 = 3 := by kernel_rfl
  have c1 : Tryd.prog.cellsOf 3 = 1 := by kernel_rfl
  rw [c4] at hlen
  have hl2 : xs.length = 2 := hxl
  obtain ⟨k0, k1, k2, k3, rfl⟩ : ∃ k0 k1 k2 k3, cs = [k0, k1, k2, k3] := by
    match cs, hlen with
    | [a, b, c, e], _ => exact ⟨a, b, c, e, rfl⟩
  have hsome : ∀ i, i < 2 → ∃ z, xs[i]? = some z := fun i hi => ⟨_, List.getElem?_eq_getElem (by omega)⟩
  have g0 : DataW.trod enc Tryd.prog w base spare held m 3 [k0] = xs[0]? := by
    have := hg 0 _ rfl
    change DataW.trod enc Tryd.prog w base spare held m 3 (([k0, k1, k2, k3].drop 0).take (Tryd.prog.cellsOf 3)) = xs[0]? at this
    rw [c1] at this; exact this
  have g1 : DataW.trod enc Tryd.prog w base spare held m 24 [k1, k2, k3] = xs[1]? := by
    have := hg 1 _ rfl
    change DataW.trod enc Tryd.prog w base spare held m 24 (([k0, k1, k2, k3].drop 1).take (Tryd.prog.cellsOf 24)) = xs[1]? at this
    rw [c3] at this; exact this
  obtain ⟨z0, e0⟩ := hsome 0 (by omega)
  obtain ⟨z1, e1⟩ := hsome 1 (by omega)
  obtain ⟨n0, rfl, i0⟩ := int_cellV (g0.trans e0)
  obtain ⟨n1, n2, n3, e, i1, i2, i3⟩ := place_cells (g1.trans e1)
  simp only [List.cons.injEq, and_true] at e
  obtain ⟨rfl, rfl, rfl⟩ := e
  exact ⟨⟨n0, n1, n2, n3⟩, rfl, i0, i1, i2, i3⟩
/-- A place, a key that came in. -/
theorem open_place {v : Value} {d : DataW H} {ps : List MemPlace} (h : DataW.Trod enc Tryd.prog w base spare held 24 v d ps) : ∃ z : V4, v = .agg #[.int .i64 z.b, .int .i64 z.c, .int .i64 z.d] := by
  obtain ⟨fuel, hf⟩ := h
  obtain ⟨n0, n1, n2, hcs, _⟩ := place_cells hf
  refine ⟨⟨0, n0, n1, n2⟩, ?_⟩
  cases v with
  | agg cs =>
    obtain ⟨l⟩ := cs
    have : l = [.int .i64 n0, .int .i64 n1, .int .i64 n2] := hcs
    rw [this]
  | _ => simp [Value.cells] at hcs
theorem open_key {v : Value} {d : DataW H} {ps : List MemPlace} (h : DataW.Trod enc Tryd.prog w base spare held 31 v d ps) : ∃ z : V4, v = .agg #[.int .i64 z.a, .int .i64 z.b, .int .i64 z.c, .int .i64 z.d] ∧ okV z := by
  obtain ⟨fuel, hf⟩ := h
  obtain ⟨z, hcs, hg⟩ := key_cells hf
  refine ⟨z, ?_, hg⟩
  cases v with
  | agg cs =>
    obtain ⟨l⟩ := cs
    have : l = [.int .i64 z.a, .int .i64 z.b, .int .i64 z.c, .int .i64 z.d] := hcs
    rw [this]
  | _ => simp [Value.cells] at hcs
end
end Go.Proofs.YtpgioihmaodlcaaDoor
