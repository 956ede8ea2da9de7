/- How the arguments of this layer's laws read: slices of integers, vectors, slices of deeds. -/
import Derived.Test.YtcahidhcnhgbeaaDoorLawN
import Derived.Test.YtcahidhcnhgbeaaDoorWireB
import Derived.Deep.Slices
namespace Go.Proofs.YtcahidhcnhgbeaaDoor
open Go Go.ChangeShapes Go.WideShapes Go.ChangeAt Go.WideMaps Go.WideElems Go.RowKit

theorem i64_of {n : Int} (h : (Lit.int .i64 n).wf = true) : I64 n := by
  have h2 : (decide ((-9223372036854775808 : Int) ≤ n) && decide (n ≤ 9223372036854775807)) = true := h
  simp at h2; exact h2

theorem list_ofT {α : Type} {n : Nat} {p : Nat → α → Prop} (h : ∀ i, i < n → ∃ z, p i z) : ∃ zs : List α, zs.length = n ∧ ∀ i z, zs[i]? = some z → p i z := by
  induction n with
  | zero => exact ⟨[], rfl, fun i z hz => by simp at hz⟩
  | succ n ih =>
    obtain ⟨zs, hl, hz⟩ := ih fun i hi => h i (by omega)
    obtain ⟨z, hn⟩ := h n (by omega)
    refine ⟨zs ++ [z], by simp [hl], fun i z' hi => ?_⟩
    rw [List.getElem?_append] at hi
    split at hi
    · exact hz i z' hi
    · rename_i hge
      have : i = n := by
        obtain ⟨h1, _⟩ := List.getElem?_eq_some_iff.1 hi
        simp at h1; omega
      subst this
      rw [show i - zs.length = 0 from by omega] at hi
      obtain rfl := Option.some.inj hi
      exact hn
theorem add_addT {a : Addr} {i j : Nat} (hj : 0 < j) : (a.add i).add j = ⟨(a.add i).block, (a.add i).off + j, none⟩ := by
  rw [Addr.add, if_neg (by omega)]

section
variable {H : Type} {enc : TypeId × Value → H} {w : World} {base : Nat} {spare : Nat → Bool} {held : Bool}

theorem int_cell {fuel : Nat} {cs : List Value} {x : DataW H × List MemPlace} (h : DataW.trod enc Tryd.prog w base spare held fuel 3 cs = some x) : ∃ z, cs = [.int .i64 z] ∧ I64 z := by
  obtain ⟨n, hn, _, hw⟩ := DataW.trod_int Tryd.underlying3 h
  exact ⟨n, hn, i64_of hw⟩

set_option maxRecDepth 100000 in
/-- A slice of integers that came in. -/
theorem open_irow {v : Value} {d : DataW H} {ps : List MemPlace} (hv : Value.okWide Tryd.prog w .any base 56 v)
    (h : DataW.Trod enc Tryd.prog w 0 spare held 56 v d ps) : ∃ (A : Option Addr) (c : Nat) (zs : List Int), v = .slice A zs.length c ∧ IRow w w.heap.size A zs ∧ (∀ z ∈ zs, I64 z) ∧ zs.length ≤ 9223372036854775807 := by
  have c1 : Tryd.prog.cellsOf 3 = 1 := by kernel_rfl
  have hu : Tryd.prog.underlying 56 = some (.slice 3) := by kernel_rfl
  obtain ⟨a0, n0, c0, rfl⟩ := okWide_slice hu hv
  obtain ⟨fuel, hf⟩ := h
  rcases Go.Deep.open_slice hu hf with ⟨hcs, _⟩ | ⟨a, len, cap, m, n, D, Pl, hcs, hb, hl, hm, hmm, hx, hi⟩
  · have hcs' : [Value.slice a0 n0 c0] = [.slice none 0 0] := hcs
    simp only [List.cons.injEq, Value.slice.injEq, and_true] at hcs'
    obtain ⟨rfl, rfl, rfl⟩ := hcs'
    exact ⟨none, 0, [], rfl, (fun h => absurd h (Nat.lt_irrefl 0)), (fun z h => absurd h List.not_mem_nil), (by rw [List.length_nil]; omega)⟩
  · have hcs' : [Value.slice a0 n0 c0] = [.slice (some a) len cap] := hcs
    simp only [List.cons.injEq, Value.slice.injEq, and_true] at hcs'
    obtain ⟨rfl, rfl, rfl⟩ := hcs'
    have hlm : n0 ≤ m := by rw [hmm]; split <;> omega
    obtain ⟨zs, hlen, hz⟩ := list_ofT (n := n0) (p := fun i z => w.cell? (a.add i) = some (.int .i64 z) ∧ I64 z) (fun i hin => by
      obtain ⟨cs', h1, h2⟩ := hi i (by omega)
      rw [c1] at h1
      obtain ⟨z, rfl, hzi⟩ := int_cell h2
      obtain ⟨_, _, hat⟩ := World.cells?_some h1
      refine ⟨z, ?_, hzi⟩
      have := hat 0 (by omega)
      rw [Nat.mul_one, show ∀ b : Addr, b.add 0 = b from fun b => rfl] at this
      exact this)
    subst hlen
    refine ⟨some a, c0, zs, rfl, fun hpos => ⟨a, rfl, ?_, fun i z h => (hz i z h).1⟩, fun z hzm => ?_, by unfold maxLen at hm; omega⟩
    · have h0 := (hz 0 _ (List.getElem?_eq_getElem hpos)).1
      have := lt_of_cell h0
      rwa [block_add] at this
    · obtain ⟨i, hi'⟩ := List.getElem?_of_mem hzm
      exact (hz i z hi').2

/-- A vector's four cells. -/
theorem vec_cells {fuel : Nat} {cs : List Value} {x : DataW H × List MemPlace} (h : DataW.trod enc Tryd.prog w base spare held fuel 29 cs = some x) :
    ∃ z : Q4, cs = [.int .i64 z.a, .int .i64 z.b, .int .i64 z.c, .int .i64 z.d] ∧ Good4 z := by
  obtain ⟨xs, m, _, hx, hlen, hxl, hel⟩ := DataW.trod_array (show Tryd.prog.underlying 29 = some (.array 4 3) by kernel_rfl) h
  have c4 : Tryd.prog.cellsOf 29 = 4 := by kernel_rfl
  have c1 : Tryd.prog.cellsOf 3 = 1 := by kernel_rfl
  rw [c4] at hlen
  rw [c1] at hel
  have key : ∀ c : Value, (∃ z, DataW.trod enc Tryd.prog w base spare held m 3 [c] = some z) → ∃ n, c = .int .i64 n ∧ I64 n := by
    rintro c ⟨z, hz⟩
    obtain ⟨n, hn, hi⟩ := int_cell hz
    exact ⟨n, by simpa using hn, hi⟩
  have hsome : ∀ i, i < 4 → ∃ z, xs[i]? = some z := fun i hi => ⟨_, List.getElem?_eq_getElem (by omega)⟩
  obtain ⟨c0, c1', c2, c3, rfl⟩ : ∃ c0 c1 c2 c3, cs = [c0, c1, c2, c3] := by
    match cs, hlen with
    | [a, b, c, e], _ => exact ⟨a, b, c, e, rfl⟩
  obtain ⟨z0, e0⟩ := hsome 0 (by omega)
  obtain ⟨z1, e1⟩ := hsome 1 (by omega)
  obtain ⟨z2, e2⟩ := hsome 2 (by omega)
  obtain ⟨z3, e3⟩ := hsome 3 (by omega)
  obtain ⟨n0, rfl, i0⟩ := key c0 ⟨z0, (hel 0 (by omega)).trans e0⟩
  obtain ⟨n1, rfl, i1⟩ := key c1' ⟨z1, (hel 1 (by omega)).trans e1⟩
  obtain ⟨n2, rfl, i2⟩ := key c2 ⟨z2, (hel 2 (by omega)).trans e2⟩
  obtain ⟨n3, rfl, i3⟩ := key c3 ⟨z3, (hel 3 (by omega)).trans e3⟩
  exact ⟨⟨n0, n1, n2, n3⟩, rfl, i0, i1, i2, i3⟩

/-- A vector that came in. -/
theorem open_vq {v : Value} {d : DataW H} {ps : List MemPlace} (h : DataW.Trod enc Tryd.prog w base spare held 29 v d ps) : ∃ x : Q4, v = .agg #[.int .i64 x.a, .int .i64 x.b, .int .i64 x.c, .int .i64 x.d] ∧ Good4 x := by
  obtain ⟨fuel, hf⟩ := h
  obtain ⟨z, hcs, hg⟩ := vec_cells hf
  refine ⟨z, ?_, hg⟩
  cases v with
  | agg cs =>
    obtain ⟨l⟩ := cs
    have : l = [.int .i64 z.a, .int .i64 z.b, .int .i64 z.c, .int .i64 z.d] := hcs
    rw [this]
  | _ => simp [Value.cells] at hcs
end
end Go.Proofs.YtcahidhcnhgbeaaDoor
