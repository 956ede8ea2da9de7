/- How a slice of deeds that came in reads. -/
import Derived.Test.YtcahidhcnhgbeaaDoorWireOpen
import Derived.Test.YtcahidhcnhgbeaaDoorWireWrites
namespace Go.Proofs.YtcahidhcnhgbeaaDoor
open Go Go.ChangeShapes Go.WideShapes Go.ChangeAt Go.WideMaps Go.WideElems Go.RowKit

section
variable {H : Type} {enc : TypeId × Value → H} {w : World} {base : Nat} {spare : Nat → Bool} {held : Bool}

theorem some_of {α : Type} {l : List α} {i : Nat} {o : Option α} (h : o = l[i]?) (hi : i < l.length) : ∃ x, o = some x := ⟨_, h.trans (List.getElem?_eq_getElem hi)⟩

set_option maxRecDepth 100000 in
/-- A deed's eight cells. -/
theorem act_cells {fuel : Nat} {cs : List Value} {x : DataW H × List MemPlace} (h : DataW.trod enc Tryd.prog w base spare held fuel 31 cs = some x) :
    ∃ z : ActD, cs = [.int .i64 z.kind, .int .i64 z.n, .string z.s, .int .i64 z.v.a, .int .i64 z.v.b, .int .i64 z.v.c, .int .i64 z.v.d, .bool z.b] ∧ GoodA z := by
  obtain ⟨xs, m, _, hx, hlen, hxl, hg⟩ := DataW.trod_struct Tryd.underlying31 h
  have c8 : Tryd.prog.cellsOf 31 = 8 := by kernel_rfl
  have c4 : Tryd.prog.cellsOf 29 = 4 := by kernel_rfl
  have c1 : Tryd.prog.cellsOf 3 = 1 := by kernel_rfl
  have cs1 : Tryd.prog.cellsOf 9 = 1 := by kernel_rfl
  have cb1 : Tryd.prog.cellsOf 4 = 1 := by kernel_rfl
  rw [c8] at hlen
  have hl5 : xs.length = 5 := hxl
  obtain ⟨k0, k1, k2, k3, k4, k5, k6, k7, rfl⟩ : ∃ k0 k1 k2 k3 k4 k5 k6 k7, cs = [k0, k1, k2, k3, k4, k5, k6, k7] := by
    match cs, hlen with
    | [a, b, c, d, e, f, g, i], _ => exact ⟨a, b, c, d, e, f, g, i, rfl⟩
  have g0 : DataW.trod enc Tryd.prog w base spare held m 3 [k0] = xs[0]? := by
    have := hg 0 _ rfl
    change DataW.trod enc Tryd.prog w base spare held m 3 (([k0, k1, k2, k3, k4, k5, k6, k7].drop 0).take (Tryd.prog.cellsOf 3)) = xs[0]? at this
    rw [c1] at this
    exact this
  have g1 : DataW.trod enc Tryd.prog w base spare held m 3 [k1] = xs[1]? := by
    have := hg 1 _ rfl
    change DataW.trod enc Tryd.prog w base spare held m 3 (([k0, k1, k2, k3, k4, k5, k6, k7].drop 1).take (Tryd.prog.cellsOf 3)) = xs[1]? at this
    rw [c1] at this
    exact this
  have g2 : DataW.trod enc Tryd.prog w base spare held m 9 [k2] = xs[2]? := by
    have := hg 2 _ rfl
    change DataW.trod enc Tryd.prog w base spare held m 9 (([k0, k1, k2, k3, k4, k5, k6, k7].drop 2).take (Tryd.prog.cellsOf 9)) = xs[2]? at this
    rw [cs1] at this
    exact this
  have g3 : DataW.trod enc Tryd.prog w base spare held m 29 [k3, k4, k5, k6] = xs[3]? := by
    have := hg 3 _ rfl
    change DataW.trod enc Tryd.prog w base spare held m 29 (([k0, k1, k2, k3, k4, k5, k6, k7].drop 3).take (Tryd.prog.cellsOf 29)) = xs[3]? at this
    rw [c4] at this
    exact this
  have g4 : DataW.trod enc Tryd.prog w base spare held m 4 [k7] = xs[4]? := by
    have := hg 4 _ rfl
    change DataW.trod enc Tryd.prog w base spare held m 4 (([k0, k1, k2, k3, k4, k5, k6, k7].drop 7).take (Tryd.prog.cellsOf 4)) = xs[4]? at this
    rw [cb1] at this
    exact this
  obtain ⟨y0, e0⟩ := some_of g0 (by omega)
  obtain ⟨y1, e1⟩ := some_of g1 (by omega)
  obtain ⟨y2, e2⟩ := some_of g2 (by omega)
  obtain ⟨y3, e3⟩ := some_of g3 (by omega)
  obtain ⟨y4, e4⟩ := some_of g4 (by omega)
  obtain ⟨n0, h0, _⟩ := int_cell e0
  obtain ⟨n1, h1, i1⟩ := int_cell e1
  obtain ⟨s2, h2, _, i2⟩ := DataW.trod_string Tryd.underlying9 e2
  obtain ⟨v3, h3, i3⟩ := vec_cells e3
  obtain ⟨b4, h4, _⟩ := DataW.trod_bool Tryd.underlying4 e4
  simp only [List.cons.injEq, and_true] at h0 h1 h2 h3 h4
  obtain ⟨rfl, rfl, rfl, rfl⟩ := h3
  subst h0 h1 h2 h4
  exact ⟨⟨n0, n1, s2, v3, b4⟩, rfl, i1, i3, i2⟩

set_option maxRecDepth 100000 in
/-- A slice of deeds that came in. -/
theorem open_acts {v : Value} {d : DataW H} {ps : List MemPlace} (hv : Value.okWide Tryd.prog w .any base 22 v)
    (h : DataW.Trod enc Tryd.prog w 0 spare held 22 v d ps) : ∃ (A : Option Addr) (c : Nat) (xs : List ActD), v = .slice A xs.length c ∧ ARow w w.heap.size A xs ∧ (∀ x ∈ xs, GoodA x) ∧ xs.length ≤ 9223372036854775807 := by
  have hu : Tryd.prog.underlying 22 = some (.slice 31) := by kernel_rfl
  have c8 : Tryd.prog.cellsOf 31 = 8 := by kernel_rfl
  obtain ⟨a0, n0, c0, rfl⟩ := okWide_slice hu hv
  obtain ⟨fuel, hf⟩ := h
  rcases Go.Deep.open_slice hu hf with ⟨hcs, _⟩ | ⟨a, len, cap, m, n, D, Pl, hcs, hb, hl, hm, hmm, hx, hi⟩
  · have hcs' : [Value.slice a0 n0 c0] = [.slice none 0 0] := hcs
    simp only [List.cons.injEq, Value.slice.injEq, and_true] at hcs'
    obtain ⟨rfl, rfl, rfl⟩ := hcs'
    exact ⟨none, 0, [], rfl, (fun h => absurd h (Nat.lt_irrefl 0)), (fun z h => absurd h List.not_mem_nil), (by rw [List.length_nil]; omega)⟩
  · have hcs' : [Value.slice a0 n0 c0] = [.slice (some a) len cap] := hcs
    simp only [List.cons.injEq, Value.slice.injEq, and_true] at hcs'
    obtain ⟨rfl, rfl, rfl⟩ := hcs'
    have hlm : n0 ≤ m := by rw [hmm]; split <;> omega
    obtain ⟨zs, hlen, hz⟩ := list_ofT (n := n0) (p := fun i (x : ActD) => (w.cell? (a.add (i * 8)) = some (.int .i64 x.kind) ∧ w.cell? ⟨(a.add (i * 8)).block, (a.add (i * 8)).off + 1, none⟩ = some (.int .i64 x.n) ∧
        w.cell? ⟨(a.add (i * 8)).block, (a.add (i * 8)).off + 2, none⟩ = some (.string x.s) ∧ w.cell? ⟨(a.add (i * 8)).block, (a.add (i * 8)).off + 3, none⟩ = some (.int .i64 x.v.a) ∧ w.cell? ⟨(a.add (i * 8)).block, (a.add (i * 8)).off + 4, none⟩ = some (.int .i64 x.v.b) ∧
        w.cell? ⟨(a.add (i * 8)).block, (a.add (i * 8)).off + 5, none⟩ = some (.int .i64 x.v.c) ∧ w.cell? ⟨(a.add (i * 8)).block, (a.add (i * 8)).off + 6, none⟩ = some (.int .i64 x.v.d) ∧ w.cell? ⟨(a.add (i * 8)).block, (a.add (i * 8)).off + 7, none⟩ = some (.bool x.b)) ∧ GoodA x) (fun i hin => by
      obtain ⟨cs', h1, h2⟩ := hi i (by omega)
      rw [c8] at h1
      obtain ⟨z, rfl, hg⟩ := act_cells h2
      obtain ⟨_, _, hat⟩ := World.cells?_some h1
      have t0 := hat 0 (by omega)
      have t1 := hat 1 (by omega)
      have t2 := hat 2 (by omega)
      have t3 := hat 3 (by omega)
      have t4 := hat 4 (by omega)
      have t5 := hat 5 (by omega)
      have t6 := hat 6 (by omega)
      have t7 := hat 7 (by omega)
      rw [show ∀ b : Addr, b.add 0 = b from fun b => rfl] at t0
      rw [add_addT (by omega)] at t1 t2 t3 t4 t5 t6 t7
      exact ⟨z, ⟨t0, t1, t2, t3, t4, t5, t6, t7⟩, hg⟩)
    subst hlen
    refine ⟨some a, c0, zs, rfl, fun hpos => ⟨a, rfl, ?_, fun i z h => (hz i z h).1⟩, fun z hzm => ?_, by unfold maxLen at hm; omega⟩
    · have h0 := (hz 0 _ (List.getElem?_eq_getElem hpos)).1.1
      have := lt_of_cell h0
      rwa [block_add] at this
    · obtain ⟨i, hi'⟩ := List.getElem?_of_mem hzm
      exact (hz i z hi').2
end
end Go.Proofs.YtcahidhcnhgbeaaDoor
