/- The bounds of integers that came in. -/
import Derived.Test.YtbfbhlpibclccaaDoorProg
import Derived.ProofKit
import Derived.Stop.Joined
import Derived.Test.YtbfbhlpibclccaaDoorKeyN
import Derived.OpenShut
import Derived.Test.YtbfbhlpibclccaaDoorRwL
import Derived.Deep.Slices
namespace Go.Proofs.YtbfbhlpibclccaaDoor
open Go Go.ChangeShapes Go.WideShapes Go.ChangeAt Go.WideMaps Go.WideElems Go.RowKit

theorem i64_lo {n : Int} (h : (Lit.int .i64 n).wf = true) : -9223372036854775808 ≤ n := by
  have h2 : (decide ((-9223372036854775808 : Int) ≤ n) && decide (n ≤ 9223372036854775807)) = true := h
  simp at h2; omega
theorem i64_hi {n : Int} (h : (Lit.int .i64 n).wf = true) : n ≤ 9223372036854775807 := by
  have h2 : (decide ((-9223372036854775808 : Int) ≤ n) && decide (n ≤ 9223372036854775807)) = true := h
  simp at h2; omega
theorem u8_is {n : Int} (h : (Lit.int .u8 n).wf = true) : ∃ c : UInt8, n = (c.toNat : Int) := by
  have h2 : (decide ((0 : Int) ≤ n) && decide (n ≤ 255)) = true := h
  simp at h2
  exact ⟨UInt8.ofNat n.toNat, by simp; omega⟩
end Go.Proofs.YtbfbhlpibclccaaDoor

/- How vectors, keys and places that came in read. -/
namespace Go.Proofs.YtbfbhlpibclccaaDoor
open Go Go.ChangeShapes Go.WideShapes Go.ChangeAt Go.WideMaps Go.WideElems Go.RowKit

section
variable {H : Type} {enc : TypeId × Value → H} {w : World} {base : Nat} {spare : Nat → Bool} {held : Bool}
theorem int_cellV {fuel : Nat} {c : Value} {z : DataW H × List MemPlace} (h : DataW.trod enc Tryd.prog w base spare held fuel 3 [c] = some z) : ∃ n, c = .int .i64 n ∧ i64 n := by
  obtain ⟨n, hn, _, hi⟩ := DataW.trod_int Tryd.underlying3 h
  exact ⟨n, by simpa using hn, i64_lo hi, i64_hi hi⟩
/-- A vector's four cells. -/
theorem v4_cells {fuel : Nat} {cs : List Value} {x : DataW H × List MemPlace} (h : DataW.trod enc Tryd.prog w base spare held fuel 31 cs = some x) : ∃ z : V4, cs = [.int .i64 z.a, .int .i64 z.b, .int .i64 z.c, .int .i64 z.d] ∧ okV z := by
  obtain ⟨xs, m, _, hx, hlen, hxl, hel⟩ := DataW.trod_array (show Tryd.prog.underlying 31 = some (.array 4 3) by kernel_rfl) h
  have c4 : Tryd.prog.cellsOf 31 = 4 := by kernel_rfl
  have c1 : Tryd.prog.cellsOf 3 = 1 := by kernel_rfl
  rw [c4] at hlen
  rw [c1] at hel
  have hsome : ∀ i, i < 4 → ∃ z, xs[i]? = some z := fun i hi => ⟨_, List.getElem?_eq_getElem (by omega)⟩
  obtain ⟨k0, k1, k2, k3, rfl⟩ : ∃ k0 k1 k2 k3, cs = [k0, k1, k2, k3] := by
    match cs, hlen with
    | [a, b, c, e], _ => exact ⟨a, b, c, e, rfl⟩
  obtain ⟨z0, e0⟩ := hsome 0 (by omega)
  obtain ⟨z1, e1⟩ := hsome 1 (by omega)
  obtain ⟨z2, e2⟩ := hsome 2 (by omega)
  obtain ⟨z3, e3⟩ := hsome 3 (by omega)
  obtain ⟨n0, rfl, i0⟩ := int_cellV ((hel 0 (by omega)).trans e0)
  obtain ⟨n1, rfl, i1⟩ := int_cellV ((hel 1 (by omega)).trans e1)
  obtain ⟨n2, rfl, i2⟩ := int_cellV ((hel 2 (by omega)).trans e2)
  obtain ⟨n3, rfl, i3⟩ := int_cellV ((hel 3 (by omega)).trans e3)
  exact ⟨⟨n0, n1, n2, n3⟩, rfl, i0, i1, i2, i3⟩
end
end Go.Proofs.YtbfbhlpibclccaaDoor

/- How a slice that came in reads, as a row of anything. No conditions. -/
namespace Go.Proofs.YtbfbhlpibclccaaDoor
open Go Go.ChangeShapes Go.WideShapes Go.ChangeAt Go.WideMaps Go.WideElems Go.RowKit

theorem list_ofL {α : Type} {n : Nat} {p : Nat → α → Prop} (h : ∀ i, i < n → ∃ z, p i z) : ∃ zs : List α, zs.length = n ∧ ∀ i z, zs[i]? = some z → p i z := by
  induction n with
  | zero => exact ⟨[], rfl, fun i z hz => by simp at hz⟩
  | succ n ih =>
    obtain ⟨zs, hl, hz⟩ := ih fun i hi => h i (by omega)
    obtain ⟨z, hn⟩ := h n (by omega)
    refine ⟨zs ++ [z], by simp [hl], fun i z' hi => ?_⟩
    rw [List.getElem?_append] at hi
    split at hi
    · exact hz i z' hi
    · rename_i hge
      have : i = n := by
        obtain ⟨h1, _⟩ := List.getElem?_eq_some_iff.1 hi
        simp at h1; omega
      subst this
      rw [show i - zs.length = 0 from by omega] at hi
      obtain rfl := Option.some.inj hi
      exact hn
/-- A slice that came in, its elements told by an encoding. -/
theorem open_lies {H : Type} {enc : TypeId × Value → H} {P : Program} {w : World} {base : Nat} {spare : Nat → Bool} {held : Bool} {α : Type} {n : Nat} (E : EncK α n) (G : α → Prop) {t e : TypeId} (hn : 0 < n) (hu : P.underlying t = some (.slice e)) (cN : P.cellsOf e = n)
    (hc : ∀ fuel cs x, DataW.trod enc P w 0 spare held fuel e cs = some x → ∃ a, cs = E.enc a ∧ G a) {v : Value} {d : DataW H} {ps : List MemPlace} (hv : Value.okWide P w .any base t v) (h : DataW.Trod enc P w 0 spare held t v d ps) :
    ∃ (A : Option Addr) (c : Nat) (xs : List α), v = .slice A xs.length c ∧ LiesE E w (.slice A xs.length c) xs ∧ (∀ x ∈ xs, G x) ∧ xs.length ≤ 9223372036854775807 ∧ xs.length ≤ c := by
  obtain ⟨a0, n0, c0, rfl⟩ := okWide_slice hu hv
  obtain ⟨fuel, hf⟩ := h
  rcases Go.Deep.open_slice hu hf with ⟨hcs, _⟩ | ⟨a, len, cap, m, nn, D, Pl, hcs, hb, hl, hm, hmm, hx, hi⟩
  · have hcs' : [Value.slice a0 n0 c0] = [.slice none 0 0] := hcs
    simp only [List.cons.injEq, Value.slice.injEq, and_true] at hcs'
    obtain ⟨rfl, rfl, rfl⟩ := hcs'
    exact ⟨none, 0, [], rfl, .inl ⟨rfl, rfl⟩, (fun z h => absurd h List.not_mem_nil), (by rw [List.length_nil]; omega), Nat.le_refl _⟩
  · have hcs' : [Value.slice a0 n0 c0] = [.slice (some a) len cap] := hcs
    simp only [List.cons.injEq, Value.slice.injEq, and_true] at hcs'
    obtain ⟨rfl, rfl, rfl⟩ := hcs'
    have hlm : n0 ≤ m := by rw [hmm]; split <;> omega
    obtain ⟨zs, hlen, hz⟩ := list_ofL (n := n0) (p := fun i x => (∀ r u, (E.enc x)[r]? = some u → w.cell? (a.add (i * n + r)) = some u) ∧ G x) (fun i hin => by
      obtain ⟨cs', h1, h2⟩ := hi i (by omega)
      rw [cN] at h1
      obtain ⟨z, rfl, hg⟩ := hc _ _ _ h2
      obtain ⟨_, _, hat⟩ := World.cells?_some h1
      refine ⟨z, fun r u hr => ?_, hg⟩
      have hrn : r < n := by
        have := (List.getElem?_eq_some_iff.1 hr).1
        rwa [E.len] at this
      rw [← add_addE]
      exact (hat r hrn).trans hr)
    subst hlen
    refine ⟨some a, c0, zs, rfl, .inr ⟨a, c0, rfl, hl, fun j u hj => ?_⟩, fun z hzm => ?_, by unfold maxLen at hm; omega, hl⟩
    · have hjl := (List.getElem?_eq_some_iff.1 hj).1
      rw [cellsE_len] at hjl
      have hd : j / n < zs.length := (Nat.div_lt_iff_lt_mul hn).2 hjl
      have hjm : j / n * n + j % n = j := by rw [Nat.mul_comm]; exact Nat.div_add_mod j n
      have hzi := List.getElem?_eq_getElem hd
      have hg := cellsE_get E zs (j / n) (j % n) hzi (Nat.mod_lt _ hn)
      rw [hjm] at hg
      have := (hz _ _ hzi).1 (j % n) u (hg.symm.trans hj)
      rwa [hjm] at this
    · obtain ⟨i, hi'⟩ := List.getElem?_of_mem hzm
      exact (hz i z hi').2
end Go.Proofs.YtbfbhlpibclccaaDoor
