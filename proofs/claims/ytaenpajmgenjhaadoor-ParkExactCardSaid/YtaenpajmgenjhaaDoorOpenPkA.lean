/- How a slice of structs that came in reads. -/
import Derived.Test.YtaenpajmgenjhaaDoorNums
import Derived.Test.YtaenpajmgenjhaaDoorErrs
import Derived.Test.YtaenpajmgenjhaaDoorOpenV4
import Derived.Test.YtaenpajmgenjhaaDoorRowPkA
import Derived.Deep.Slices
namespace Go.Proofs.YtaenpajmgenjhaaDoor
open Go Go.ChangeShapes Go.WideShapes Go.ChangeAt Go.WideMaps Go.WideElems Go.RowKit

theorem some_ofPkA {α : Type} {l : List α} {i : Nat} {o : Option α} (h : o = l[i]?) (hi : i < l.length) : ∃ x, o = some x := ⟨_, h.trans (List.getElem?_eq_getElem hi)⟩
theorem list_ofPkA {α : Type} {n : Nat} {p : Nat → α → Prop} (h : ∀ i, i < n → ∃ z, p i z) : ∃ zs : List α, zs.length = n ∧ ∀ i z, zs[i]? = some z → p i z := by
  induction n with
  | zero => exact ⟨[], rfl, fun i z hz => by simp at hz⟩
  | succ n ih =>
    obtain ⟨zs, hl, hz⟩ := ih fun i hi => h i (by omega)
    obtain ⟨z, hn⟩ := h n (by omega)
    refine ⟨zs ++ [z], by simp [hl], fun i z' hi => ?_⟩
    rw [List.getElem?_append] at hi
    split at hi
    · exact hz i z' hi
    · rename_i hge
      have : i = n := by
        obtain ⟨h1, _⟩ := List.getElem?_eq_some_iff.1 hi
        simp at h1; omega
      subst this
      rw [show i - zs.length = 0 from by omega] at hi
      obtain rfl := Option.some.inj hi
      exact hn
theorem add_addPkA {a : Addr} {i j : Nat} (hj : 0 < j) : (a.add i).add j = ⟨(a.add i).block, (a.add i).off + j, none⟩ := by
  rw [Addr.add, if_neg (by omega)]

section
variable {H : Type} {enc : TypeId × Value → H} {w : World} {base : Nat} {spare : Nat → Bool} {held : Bool}

set_option maxRecDepth 100000 in
theorem cells_PkA {fuel : Nat} {cs : List Value} {x : DataW H × List MemPlace} (h : DataW.trod enc Tryd.prog w base spare held fuel 34 cs = some x) :
    ∃ x : PkAD, cs = [.int .i64 x.kind, .int .i64 x.id, .int .i64 x.n, .int .i64 x.v.a, .int .i64 x.v.b, .int .i64 x.v.c, .int .i64 x.v.d] ∧ GoodPkA x := by
  obtain ⟨xs, m, _, hx, hlen, hxl, hg⟩ := DataW.trod_struct Tryd.underlying34 h
  have cN : Tryd.prog.cellsOf 34 = 7 := by kernel_rfl
  rw [cN] at hlen
  have hl5 : xs.length = 4 := hxl
  obtain ⟨k0, k1, k2, k3, k4, k5, k6, rfl⟩ : ∃ k0 k1 k2 k3 k4 k5 k6, cs = [k0, k1, k2, k3, k4, k5, k6] := by
    match cs, hlen with
    | [q0, q1, q2, q3, q4, q5, q6], _ => exact ⟨q0, q1, q2, q3, q4, q5, q6, rfl⟩
  have z_int : Tryd.prog.cellsOf 3 = 1 := by kernel_rfl
  have z_v4 : Tryd.prog.cellsOf 28 = 4 := by kernel_rfl
  have g0 : DataW.trod enc Tryd.prog w base spare held m 3 [k0] = xs[0]? := by
    have := hg 0 _ rfl
    change DataW.trod enc Tryd.prog w base spare held m 3 (([k0, k1, k2, k3, k4, k5, k6].drop 0).take (Tryd.prog.cellsOf 3)) = xs[0]? at this
    rw [z_int] at this
    exact this
  have g1 : DataW.trod enc Tryd.prog w base spare held m 3 [k1] = xs[1]? := by
    have := hg 1 _ rfl
    change DataW.trod enc Tryd.prog w base spare held m 3 (([k0, k1, k2, k3, k4, k5, k6].drop 1).take (Tryd.prog.cellsOf 3)) = xs[1]? at this
    rw [z_int] at this
    exact this
  have g2 : DataW.trod enc Tryd.prog w base spare held m 3 [k2] = xs[2]? := by
    have := hg 2 _ rfl
    change DataW.trod enc Tryd.prog w base spare held m 3 (([k0, k1, k2, k3, k4, k5, k6].drop 2).take (Tryd.prog.cellsOf 3)) = xs[2]? at this
    rw [z_int] at this
    exact this
  have g3 : DataW.trod enc Tryd.prog w base spare held m 28 [k3, k4, k5, k6] = xs[3]? := by
    have := hg 3 _ rfl
    change DataW.trod enc Tryd.prog w base spare held m 28 (([k0, k1, k2, k3, k4, k5, k6].drop 3).take (Tryd.prog.cellsOf 28)) = xs[3]? at this
    rw [z_v4] at this
    exact this
  obtain ⟨y0, e0⟩ := some_ofPkA g0 (by omega)
  obtain ⟨n0, h0, _, i0⟩ := DataW.trod_int Tryd.underlying3 e0
  obtain ⟨y1, e1⟩ := some_ofPkA g1 (by omega)
  obtain ⟨n1, h1, _, i1⟩ := DataW.trod_int Tryd.underlying3 e1
  obtain ⟨y2, e2⟩ := some_ofPkA g2 (by omega)
  obtain ⟨n2, h2, _, i2⟩ := DataW.trod_int Tryd.underlying3 e2
  obtain ⟨y3, e3⟩ := some_ofPkA g3 (by omega)
  obtain ⟨n3, h3, i3⟩ := v4_cells e3
  simp only [List.cons.injEq, and_true] at h0 h1 h2 h3
  obtain ⟨rfl, rfl, rfl, rfl⟩ := h3
  subst h0 h1 h2
  exact ⟨⟨n0, n1, n2, n3⟩, rfl, ⟨⟨i64_lo i0, i64_hi i0⟩, ⟨i64_lo i1, i64_hi i1⟩, ⟨i64_lo i2, i64_hi i2⟩, i3⟩⟩

set_option maxRecDepth 100000 in
theorem open_PkA {v : Value} {d : DataW H} {ps : List MemPlace} (hv : Value.okWide Tryd.prog w .any base 22 v)
    (h : DataW.Trod enc Tryd.prog w 0 spare held 22 v d ps) : ∃ (A : Option Addr) (c : Nat) (xs : List PkAD), v = .slice A xs.length c ∧ PkARow w w.heap.size A xs ∧ (∀ x ∈ xs, GoodPkA x) ∧ xs.length ≤ 9223372036854775807 := by
  have hu : Tryd.prog.underlying 22 = some (.slice 34) := by kernel_rfl
  have cN : Tryd.prog.cellsOf 34 = 7 := by kernel_rfl
  obtain ⟨a0, n0, c0, rfl⟩ := okWide_slice hu hv
  obtain ⟨fuel, hf⟩ := h
  rcases Go.Deep.open_slice hu hf with ⟨hcs, _⟩ | ⟨a, len, cap, m, n, D, Pl, hcs, hb, hl, hm, hmm, hx, hi⟩
  · have hcs' : [Value.slice a0 n0 c0] = [.slice none 0 0] := hcs
    simp only [List.cons.injEq, Value.slice.injEq, and_true] at hcs'
    obtain ⟨rfl, rfl, rfl⟩ := hcs'
    exact ⟨none, 0, [], rfl, (fun h => absurd h (Nat.lt_irrefl 0)), (fun z h => absurd h List.not_mem_nil), (by rw [List.length_nil]; omega)⟩
  · have hcs' : [Value.slice a0 n0 c0] = [.slice (some a) len cap] := hcs
    simp only [List.cons.injEq, Value.slice.injEq, and_true] at hcs'
    obtain ⟨rfl, rfl, rfl⟩ := hcs'
    have hlm : n0 ≤ m := by rw [hmm]; split <;> omega
    obtain ⟨zs, hlen, hz⟩ := list_ofPkA (n := n0) (p := fun i (x : PkAD) => (w.cell? (a.add (i * 7)) = some (.int .i64 x.kind) ∧ w.cell? ⟨(a.add (i * 7)).block, (a.add (i * 7)).off + 1, none⟩ = some (.int .i64 x.id) ∧ w.cell? ⟨(a.add (i * 7)).block, (a.add (i * 7)).off + 2, none⟩ = some (.int .i64 x.n) ∧ w.cell? ⟨(a.add (i * 7)).block, (a.add (i * 7)).off + 3, none⟩ = some (.int .i64 x.v.a) ∧ w.cell? ⟨(a.add (i * 7)).block, (a.add (i * 7)).off + 4, none⟩ = some (.int .i64 x.v.b) ∧ w.cell? ⟨(a.add (i * 7)).block, (a.add (i * 7)).off + 5, none⟩ = some (.int .i64 x.v.c) ∧ w.cell? ⟨(a.add (i * 7)).block, (a.add (i * 7)).off + 6, none⟩ = some (.int .i64 x.v.d)) ∧ GoodPkA x) (fun i hin => by
      obtain ⟨cs', h1, h2⟩ := hi i (by omega)
      rw [cN] at h1
      obtain ⟨z, rfl, hg⟩ := cells_PkA h2
      obtain ⟨_, _, hat⟩ := World.cells?_some h1
      have t0 := hat 0 (by omega)
      have t1 := hat 1 (by omega)
      have t2 := hat 2 (by omega)
      have t3 := hat 3 (by omega)
      have t4 := hat 4 (by omega)
      have t5 := hat 5 (by omega)
      have t6 := hat 6 (by omega)
      rw [show ∀ b : Addr, b.add 0 = b from fun b => rfl] at t0
      rw [add_addPkA (by omega)] at t1 t2 t3 t4 t5 t6
      exact ⟨z, ⟨t0, t1, t2, t3, t4, t5, t6⟩, hg⟩)
    subst hlen
    refine ⟨some a, c0, zs, rfl, fun hpos => ⟨a, rfl, ?_, fun i z h => (hz i z h).1⟩, fun z hzm => ?_, by unfold maxLen at hm; omega⟩
    · have h0 := (hz 0 _ (List.getElem?_eq_getElem hpos)).1.1
      have := lt_of_cell h0
      rwa [block_addPkA] at this
    · obtain ⟨i, hi'⟩ := List.getElem?_of_mem hzm
      exact (hz i z hi').2
end
end Go.Proofs.YtaenpajmgenjhaaDoor
