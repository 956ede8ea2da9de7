/- How a slice of strings that came in reads. -/
import Derived.Test.YtaibmdjcppeopaaGreatDoorNums
import Derived.Test.YtaibmdjcppeopaaGreatDoorFrA
import Derived.Test.YtaibmdjcppeopaaGreatDoorErrs
import Derived.Deep.Slices
namespace Go.Proofs.YtaibmdjcppeopaaGreatDoor
open Go Go.ChangeShapes Go.WideShapes Go.ChangeAt Go.WideMaps Go.WideElems Go.RowKit

theorem list_ofS {α : Type} {n : Nat} {p : Nat → α → Prop} (h : ∀ i, i < n → ∃ z, p i z) : ∃ zs : List α, zs.length = n ∧ ∀ i z, zs[i]? = some z → p i z := by
  induction n with
  | zero => exact ⟨[], rfl, fun i z hz => by simp at hz⟩
  | succ n ih =>
    obtain ⟨zs, hl, hz⟩ := ih fun i hi => h i (by omega)
    obtain ⟨z, hn⟩ := h n (by omega)
    refine ⟨zs ++ [z], by simp [hl], fun i z' hi => ?_⟩
    rw [List.getElem?_append] at hi
    split at hi
    · exact hz i z' hi
    · rename_i hge
      have : i = n := by
        obtain ⟨h1, _⟩ := List.getElem?_eq_some_iff.1 hi
        simp at h1; omega
      subst this
      rw [show i - zs.length = 0 from by omega] at hi
      obtain rfl := Option.some.inj hi
      exact hn
theorem add_addS {a : Addr} {i j : Nat} (hj : 0 < j) : (a.add i).add j = ⟨(a.add i).block, (a.add i).off + j, none⟩ := by
  rw [Addr.add, if_neg (by omega)]

section
variable {H : Type} {enc : TypeId × Value → H} {w : World} {base : Nat} {spare : Nat → Bool} {held : Bool}

set_option maxRecDepth 100000 in
/-- A slice of strings that came in. -/
theorem open_srow {v : Value} {d : DataW H} {ps : List MemPlace} (hv : Value.okWide Tryz.prog w .any base 22 v)
    (h : DataW.Trod enc Tryz.prog w 0 spare held 22 v d ps) : ∃ (A : Option Addr) (c : Nat) (zs : List ByteArray), v = .slice A zs.length c ∧ SRow w w.heap.size A zs ∧ zs.length ≤ 9223372036854775807 ∧ zs.length ≤ c := by
  have c1 : Tryz.prog.cellsOf 9 = 1 := by kernel_rfl
  have hu : Tryz.prog.underlying 22 = some (.slice 9) := by kernel_rfl
  obtain ⟨a0, n0, c0, rfl⟩ := okWide_slice hu hv
  obtain ⟨fuel, hf⟩ := h
  rcases Go.Deep.open_slice hu hf with ⟨hcs, _⟩ | ⟨a, len, cap, m, n, D, Pl, hcs, hb, hl, hm, hmm, hx, hi⟩
  · have hcs' : [Value.slice a0 n0 c0] = [.slice none 0 0] := hcs
    simp only [List.cons.injEq, Value.slice.injEq, and_true] at hcs'
    obtain ⟨rfl, rfl, rfl⟩ := hcs'
    exact ⟨none, 0, [], rfl, (fun h => absurd h (Nat.lt_irrefl 0)), (by rw [List.length_nil]; omega), by rw [List.length_nil]; omega⟩
  · have hcs' : [Value.slice a0 n0 c0] = [.slice (some a) len cap] := hcs
    simp only [List.cons.injEq, Value.slice.injEq, and_true] at hcs'
    obtain ⟨rfl, rfl, rfl⟩ := hcs'
    have hlm : n0 ≤ m := by rw [hmm]; split <;> omega
    obtain ⟨zs, hlen, hz⟩ := list_ofS (n := n0) (p := fun i (z : ByteArray) => w.cell? (a.add i) = some (.string z)) (fun i hin => by
      obtain ⟨cs', h1, h2⟩ := hi i (by omega)
      rw [c1] at h1
      obtain ⟨z, hn, _, hw⟩ := DataW.trod_string Tryz.underlying9 h2
      subst hn
      obtain ⟨_, _, hat⟩ := World.cells?_some h1
      refine ⟨z, ?_⟩
      have := hat 0 (by omega)
      rw [Nat.mul_one, show ∀ b : Addr, b.add 0 = b from fun b => rfl] at this
      exact this)
    subst hlen
    refine ⟨some a, c0, zs, rfl, fun hpos => ⟨a, rfl, ?_, fun i z h => hz i z h⟩, by unfold maxLen at hm; omega, by omega⟩
    have h0 := hz 0 _ (List.getElem?_eq_getElem hpos)
    have := lt_of_cell h0
    rwa [block_addS] at this
end
end Go.Proofs.YtaibmdjcppeopaaGreatDoor
