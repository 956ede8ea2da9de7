/- A vector that came in. No conditions. -/
import Derived.Test.YtmimlniofhngjaaDoorNums
import Derived.Test.YtmimlniofhngjaaDoorVecM
import Derived.OpenShut
namespace Go.Proofs.YtmimlniofhngjaaDoor
open Go Go.ChangeShapes Go.WideShapes Go.ChangeAt Go.WideMaps Go.WideElems Go.RowKit

section
variable {H : Type} {enc : TypeId × Value → H} {P : Program} {w : World} {base : Nat} {spare : Nat → Bool} {held : Bool}
/-- Five arguments that came in. -/
theorem trodAll_five {t0 t1 t2 t3 t4 : TypeId} {args : Array Value} {ds : List (DataW H)} {ps : List MemPlace} (h : DataW.TrodAll enc P w base spare held [t0, t1, t2, t3, t4] args.toList ds ps) :
    ∃ v0 v1 v2 v3 v4 d0 d1 d2 d3 d4 p0 p1 p2 p3 p4, args = #[v0, v1, v2, v3, v4] ∧ ds = [d0, d1, d2, d3, d4] ∧ ps = p0 ++ p1 ++ p2 ++ p3 ++ p4 ∧ DataW.Trod enc P w base spare held t0 v0 d0 p0 ∧ DataW.Trod enc P w base spare held t1 v1 d1 p1 ∧ DataW.Trod enc P w base spare held t2 v2 d2 p2 ∧ DataW.Trod enc P w base spare held t3 v3 d3 p3 ∧ DataW.Trod enc P w base spare held t4 v4 d4 p4 := by
  obtain ⟨v0, vs0, d0, ds0, p0, q0, hargs, rfl, rfl, k0, r0⟩ := trodAll_cons h
  obtain ⟨v1, vs1, d1, ds1, p1, q1, rfl, rfl, rfl, k1, r1⟩ := trodAll_cons r0
  obtain ⟨v2, vs2, d2, ds2, p2, q2, rfl, rfl, rfl, k2, r2⟩ := trodAll_cons r1
  obtain ⟨v3, vs3, d3, ds3, p3, q3, rfl, rfl, rfl, k3, r3⟩ := trodAll_cons r2
  obtain ⟨v4, vs4, d4, ds4, p4, q4, rfl, rfl, rfl, k4, r4⟩ := trodAll_cons r3
  obtain ⟨rfl, rfl, rfl⟩ := trodAll_nil r4
  exact ⟨v0, v1, v2, v3, v4, d0, d1, d2, d3, d4, p0, p1, p2, p3, p4, by cases args; simp_all, rfl, by simp, k0, k1, k2, k3, k4⟩
end
/-- A vector that came in. -/
theorem open_vec {H : Type} {enc : TypeId × Value → H} {w : World} {base : Nat} {spare : Nat → Bool} {held : Bool} {v : Value} {d : DataW H} {ps : List MemPlace}
    (h : DataW.Trod enc Tryd.prog w base spare held 23 v d ps) : ∃ x : V4, v = .agg #[.int .i64 x.a, .int .i64 x.b, .int .i64 x.c, .int .i64 x.d] := by
  obtain ⟨fuel, hf⟩ := h
  obtain ⟨xs, m, _, hx, hlen, hxl, hel⟩ := DataW.trod_array (show Tryd.prog.underlying 23 = some (.array 4 3) by kernel_rfl) hf
  have c4 : Tryd.prog.cellsOf 23 = 4 := by kernel_rfl
  have c1 : Tryd.prog.cellsOf 3 = 1 := by kernel_rfl
  rw [c4] at hlen
  rw [c1] at hel
  have key : ∀ c : Value, (∃ z, DataW.trod enc Tryd.prog w base spare held m 3 [c] = some z) → ∃ n, c = .int .i64 n := by
    rintro c ⟨z, hz⟩
    obtain ⟨n, hn, _⟩ := DataW.trod_int Tryd.underlying3 hz
    exact ⟨n, by simpa using hn⟩
  have hsome : ∀ i, i < 4 → ∃ z, xs[i]? = some z := fun i hi => ⟨_, List.getElem?_eq_getElem (by omega)⟩
  obtain ⟨c0, c1', c2, c3, hcs⟩ : ∃ c0 c1 c2 c3, v.cells.toList = [c0, c1, c2, c3] := by
    match v.cells.toList, hlen with
    | [a, b, c, e], _ => exact ⟨a, b, c, e, rfl⟩
  rw [hcs] at hel
  obtain ⟨z0, e0⟩ := hsome 0 (by omega)
  obtain ⟨z1, e1⟩ := hsome 1 (by omega)
  obtain ⟨z2, e2⟩ := hsome 2 (by omega)
  obtain ⟨z3, e3⟩ := hsome 3 (by omega)
  obtain ⟨n0, rfl⟩ := key c0 ⟨z0, (hel 0 (by omega)).trans e0⟩
  obtain ⟨n1, rfl⟩ := key c1' ⟨z1, (hel 1 (by omega)).trans e1⟩
  obtain ⟨n2, rfl⟩ := key c2 ⟨z2, (hel 2 (by omega)).trans e2⟩
  obtain ⟨n3, rfl⟩ := key c3 ⟨z3, (hel 3 (by omega)).trans e3⟩
  refine ⟨⟨n0, n1, n2, n3⟩, ?_⟩
  cases v with
  | agg cs =>
    obtain ⟨l⟩ := cs
    have : l = [.int .i64 n0, .int .i64 n1, .int .i64 n2, .int .i64 n3] := hcs
    rw [this]
  | _ => simp [Value.cells] at hcs
end Go.Proofs.YtmimlniofhngjaaDoor
