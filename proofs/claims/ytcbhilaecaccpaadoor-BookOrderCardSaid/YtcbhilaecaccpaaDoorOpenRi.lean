/- How a slice of integers that came in reads. -/
import Derived.Test.YtcbhilaecaccpaaDoorNums
import Derived.Test.YtcbhilaecaccpaaDoorInts
import Derived.Deep.Slices
namespace Go.Proofs.YtcbhilaecaccpaaDoor
open Go Go.ChangeShapes Go.WideShapes Go.ChangeAt Go.WideMaps Go.WideElems Go.RowKit

theorem list_ofI {α : Type} {n : Nat} {p : Nat → α → Prop} (h : ∀ i, i < n → ∃ z, p i z) : ∃ zs : List α, zs.length = n ∧ ∀ i z, zs[i]? = some z → p i z := by
  induction n with
  | zero => exact ⟨[], rfl, fun i z hz => by simp at hz⟩
  | succ n ih =>
    obtain ⟨zs, hl, hz⟩ := ih fun i hi => h i (by omega)
    obtain ⟨z, hn⟩ := h n (by omega)
    refine ⟨zs ++ [z], by simp [hl], fun i z' hi => ?_⟩
    rw [List.getElem?_append] at hi
    split at hi
    · exact hz i z' hi
    · rename_i hge
      have : i = n := by
        obtain ⟨h1, _⟩ := List.getElem?_eq_some_iff.1 hi
        simp at h1; omega
      subst this
      rw [show i - zs.length = 0 from by omega] at hi
      obtain rfl := Option.some.inj hi
      exact hn

section
variable {H : Type} {enc : TypeId × Value → H} {w : World} {base : Nat} {spare : Nat → Bool} {held : Bool}

set_option maxRecDepth 100000 in
/-- A slice of integers that came in. -/
theorem open_ri {v : Value} {d : DataW H} {ps : List MemPlace} (hv : Value.okWide Tryd.prog w .any base 59 v)
    (h : DataW.Trod enc Tryd.prog w 0 spare held 59 v d ps) : ∃ (zs : List Int), RI w v zs ∧ zs.length ≤ 9223372036854775807 := by
  have c1 : Tryd.prog.cellsOf 3 = 1 := by kernel_rfl
  have hu : Tryd.prog.underlying 59 = some (.slice 3) := by kernel_rfl
  obtain ⟨a0, n0, c0, rfl⟩ := okWide_slice hu hv
  obtain ⟨fuel, hf⟩ := h
  rcases Go.Deep.open_slice hu hf with ⟨hcs, _⟩ | ⟨a, len, cap, m, n, D, Pl, hcs, hb, hl, hm, hmm, hx, hi⟩
  · have hcs' : [Value.slice a0 n0 c0] = [.slice none 0 0] := hcs
    simp only [List.cons.injEq, Value.slice.injEq, and_true] at hcs'
    obtain ⟨rfl, rfl, rfl⟩ := hcs'
    exact ⟨[], ⟨none, 0, rfl, fun i z hz => by simp at hz⟩, by rw [List.length_nil]; omega⟩
  · have hcs' : [Value.slice a0 n0 c0] = [.slice (some a) len cap] := hcs
    simp only [List.cons.injEq, Value.slice.injEq, and_true] at hcs'
    obtain ⟨rfl, rfl, rfl⟩ := hcs'
    have hlm : n0 ≤ m := by rw [hmm]; split <;> omega
    obtain ⟨zs, hlen, hz⟩ := list_ofI (n := n0) (p := fun i (z : Int) => w.cell? (a.add i) = some (.int .i64 z)) (fun i hin => by
      obtain ⟨cs', h1, h2⟩ := hi i (by omega)
      rw [c1] at h1
      obtain ⟨z, hn, _, hw⟩ := DataW.trod_int Tryd.underlying3 h2
      subst hn
      obtain ⟨_, _, hat⟩ := World.cells?_some h1
      refine ⟨z, ?_⟩
      have := hat 0 (by omega)
      rw [Nat.mul_one, show ∀ b : Addr, b.add 0 = b from fun b => rfl] at this
      exact this)
    subst hlen
    exact ⟨zs, ⟨some a, c0, rfl, fun i z h => ⟨a, rfl, hz i z h⟩⟩, by unfold maxLen at hm; omega⟩
end
end Go.Proofs.YtcbhilaecaccpaaDoor
