/- How the arguments of layer 6's laws read: slices of integers, of strings, of slices of strings. -/
import Derived.Test.YtmfchjbpbfkgiaaGreatDoorOpenS
import Derived.Test.YtmfchjbpbfkgiaaGreatDoorLgRd
namespace Go.Proofs.YtmfchjbpbfkgiaaGreatDoor
open Go Go.ChangeShapes Go.WideShapes Go.ChangeAt Go.WideMaps Go.WideElems Go.RowKit

/-- A slice of slices of strings reads as a list of lists; all cells lie below block B. -/
def SSRow (w : World) (B : Nat) (A : Option Addr) (L : List (List ByteArray)) : Prop :=
  0 < L.length → ∃ a, A = some a ∧ a.block < B ∧ ∀ i zs, L[i]? = some zs → ∃ (A' : Option Addr) (c' : Nat), w.cell? (a.add i) = some (.slice A' zs.length c') ∧ zs.length ≤ c' ∧ SRow w B A' zs ∧ zs.length ≤ 9223372036854775807
theorem SSRow.cell {w w' : World} {B i : Nat} {A : Option Addr} {L : List (List ByteArray)} {zs : List ByteArray} (h : SSRow w B A L) (hb : Below B w w') (hi : L[i]? = some zs) : ∃ a, A = some a ∧ ∃ (A' : Option Addr) (c' : Nat), w'.cell? (a.add i) = some (.slice A' zs.length c') ∧ zs.length ≤ c' ∧ SRow w' B A' zs ∧ zs.length ≤ 9223372036854775807 := by
  obtain ⟨a, e, hl, hc⟩ := h (Nat.lt_of_le_of_lt (Nat.zero_le _) (List.getElem?_eq_some_iff.1 hi).1)
  obtain ⟨A', c', h1, h2, h3, h4⟩ := hc i zs hi
  exact ⟨a, e, A', c', (hb.cell (p := a.add i) (by rw [block_addS]; exact hl)).trans h1, h2, h3.below hb (Nat.le_refl _), h4⟩

section
variable {H : Type} {enc : TypeId × Value → H} {w : World} {base : Nat} {spare : Nat → Bool} {held : Bool}

set_option maxRecDepth 100000 in
/-- A slice of integers that came in. -/
theorem open_introw {v : Value} {d : DataW H} {ps : List MemPlace} (hv : Value.okWide Tryz.prog w .any base 23 v)
    (h : DataW.Trod enc Tryz.prog w 0 spare held 23 v d ps) : ∃ (A : Option Addr) (c : Nat) (zs : List Int), v = .slice A zs.length c ∧ IntRow w w.heap.size A zs ∧ zs.length ≤ 9223372036854775807 ∧ zs.length ≤ c := by
  have c1 : Tryz.prog.cellsOf 3 = 1 := by kernel_rfl
  have hu : Tryz.prog.underlying 23 = some (.slice 3) := by kernel_rfl
  obtain ⟨a0, n0, c0, rfl⟩ := okWide_slice hu hv
  obtain ⟨fuel, hf⟩ := h
  rcases Go.Deep.open_slice hu hf with ⟨hcs, _⟩ | ⟨a, len, cap, m, n, D, Pl, hcs, hb, hl, hm, hmm, hx, hi⟩
  · have hcs' : [Value.slice a0 n0 c0] = [.slice none 0 0] := hcs
    simp only [List.cons.injEq, Value.slice.injEq, and_true] at hcs'
    obtain ⟨rfl, rfl, rfl⟩ := hcs'
    exact ⟨none, 0, [], rfl, (fun h => absurd h (Nat.lt_irrefl 0)), (by rw [List.length_nil]; omega), by rw [List.length_nil]; omega⟩
  · have hcs' : [Value.slice a0 n0 c0] = [.slice (some a) len cap] := hcs
    simp only [List.cons.injEq, Value.slice.injEq, and_true] at hcs'
    obtain ⟨rfl, rfl, rfl⟩ := hcs'
    have hlm : n0 ≤ m := by rw [hmm]; split <;> omega
    obtain ⟨zs, hlen, hz⟩ := list_ofS (n := n0) (p := fun i (z : Int) => w.cell? (a.add i) = some (.int .i64 z)) (fun i hin => by
      obtain ⟨cs', h1, h2⟩ := hi i (by omega)
      rw [c1] at h1
      obtain ⟨z, hn, _, hw⟩ := DataW.trod_int Tryz.underlying3 h2
      subst hn
      obtain ⟨_, _, hat⟩ := World.cells?_some h1
      refine ⟨z, ?_⟩
      have := hat 0 (by omega)
      rw [Nat.mul_one, show ∀ b : Addr, b.add 0 = b from fun b => rfl] at this
      exact this)
    subst hlen
    refine ⟨some a, c0, zs, rfl, fun hpos => ⟨a, rfl, ?_, fun i z h => hz i z h⟩, by unfold maxLen at hm; omega, by omega⟩
    have h0 := hz 0 _ (List.getElem?_eq_getElem hpos)
    have := lt_of_cell h0
    rwa [block_addS] at this

set_option maxRecDepth 100000 in
/-- The cell of a slice of strings. -/
theorem open_scell {fuel : Nat} {cs : List Value} {x : DataW H × List MemPlace} (hf : DataW.trod enc Tryz.prog w base spare held fuel 22 cs = some x) :
    ∃ (A : Option Addr) (c : Nat) (zs : List ByteArray), cs = [.slice A zs.length c] ∧ SRow w w.heap.size A zs ∧ zs.length ≤ 9223372036854775807 ∧ zs.length ≤ c := by
  have c1 : Tryz.prog.cellsOf 9 = 1 := by kernel_rfl
  have hu : Tryz.prog.underlying 22 = some (.slice 9) := by kernel_rfl
  rcases Go.Deep.open_slice hu hf with ⟨hcs, _⟩ | ⟨a, len, cap, m, n, D, Pl, hcs, hb, hl, hm, hmm, hx, hi⟩
  · exact ⟨none, 0, [], hcs, (fun h => absurd h (Nat.lt_irrefl 0)), (by rw [List.length_nil]; omega), by rw [List.length_nil]; omega⟩
  · have hlm : len ≤ m := by rw [hmm]; split <;> omega
    obtain ⟨zs, hlen, hz⟩ := list_ofS (n := len) (p := fun i (z : ByteArray) => w.cell? (a.add i) = some (.string z)) (fun i hin => by
      obtain ⟨cs', h1, h2⟩ := hi i (by omega)
      rw [c1] at h1
      obtain ⟨z, hn, _, hw⟩ := DataW.trod_string Tryz.underlying9 h2
      subst hn
      obtain ⟨_, _, hat⟩ := World.cells?_some h1
      refine ⟨z, ?_⟩
      have := hat 0 (by omega)
      rw [Nat.mul_one, show ∀ b : Addr, b.add 0 = b from fun b => rfl] at this
      exact this)
    subst hlen
    refine ⟨some a, cap, zs, hcs, fun hpos => ⟨a, rfl, ?_, fun i z h => hz i z h⟩, by unfold maxLen at hm; omega, by omega⟩
    have h0 := hz 0 _ (List.getElem?_eq_getElem hpos)
    have := lt_of_cell h0
    rwa [block_addS] at this

set_option maxRecDepth 100000 in
/-- A slice of slices of strings that came in. -/
theorem open_ssrow {v : Value} {d : DataW H} {ps : List MemPlace} (hv : Value.okWide Tryz.prog w .any base 57 v)
    (h : DataW.Trod enc Tryz.prog w 0 spare held 57 v d ps) : ∃ (A : Option Addr) (c : Nat) (L : List (List ByteArray)), v = .slice A L.length c ∧ SSRow w w.heap.size A L ∧ L.length ≤ 9223372036854775807 ∧ L.length ≤ c := by
  have c1 : Tryz.prog.cellsOf 22 = 1 := by kernel_rfl
  have hu : Tryz.prog.underlying 57 = some (.slice 22) := by kernel_rfl
  obtain ⟨a0, n0, c0, rfl⟩ := okWide_slice hu hv
  obtain ⟨fuel, hf⟩ := h
  rcases Go.Deep.open_slice hu hf with ⟨hcs, _⟩ | ⟨a, len, cap, m, n, D, Pl, hcs, hb, hl, hm, hmm, hx, hi⟩
  · have hcs' : [Value.slice a0 n0 c0] = [.slice none 0 0] := hcs
    simp only [List.cons.injEq, Value.slice.injEq, and_true] at hcs'
    obtain ⟨rfl, rfl, rfl⟩ := hcs'
    exact ⟨none, 0, [], rfl, (fun h => absurd h (Nat.lt_irrefl 0)), (by rw [List.length_nil]; omega), by rw [List.length_nil]; omega⟩
  · have hcs' : [Value.slice a0 n0 c0] = [.slice (some a) len cap] := hcs
    simp only [List.cons.injEq, Value.slice.injEq, and_true] at hcs'
    obtain ⟨rfl, rfl, rfl⟩ := hcs'
    have hlm : n0 ≤ m := by rw [hmm]; split <;> omega
    obtain ⟨L, hlen, hz⟩ := list_ofS (n := n0) (p := fun i (zs : List ByteArray) => ∃ (A' : Option Addr) (c' : Nat), w.cell? (a.add i) = some (.slice A' zs.length c') ∧ zs.length ≤ c' ∧ SRow w w.heap.size A' zs ∧ zs.length ≤ 9223372036854775807) (fun i hin => by
      obtain ⟨cs', h1, h2⟩ := hi i (by omega)
      rw [c1] at h1
      obtain ⟨A', c', zs, rfl, k1, k2, k3⟩ := open_scell h2
      obtain ⟨_, _, hat⟩ := World.cells?_some h1
      refine ⟨zs, A', c', ?_, k3, k1, k2⟩
      have := hat 0 (by omega)
      rw [Nat.mul_one, show ∀ b : Addr, b.add 0 = b from fun b => rfl] at this
      exact this)
    subst hlen
    refine ⟨some a, c0, L, rfl, fun hpos => ⟨a, rfl, ?_, fun i z h => hz i z h⟩, by unfold maxLen at hm; omega, by omega⟩
    obtain ⟨_, _, h0, _⟩ := hz 0 _ (List.getElem?_eq_getElem hpos)
    have := lt_of_cell h0
    rwa [block_addS] at this
end
end Go.Proofs.YtmfchjbpbfkgiaaGreatDoor
