/- How a slice that came in reads, as a row of anything. No conditions. -/
import Derived.Test.YtlckofoabnnlhaaDoorRwK
import Derived.Test.YtlckofoabnnlhaaDoorNums
import Derived.Deep.Slices
import Derived.OpenShut
namespace Go.Proofs.YtlckofoabnnlhaaDoor
open Go Go.ChangeShapes Go.WideShapes Go.ChangeAt Go.WideMaps Go.WideElems Go.RowKit

theorem list_ofL {α : Type} {n : Nat} {p : Nat → α → Prop} (h : ∀ i, i < n → ∃ z, p i z) : ∃ zs : List α, zs.length = n ∧ ∀ i z, zs[i]? = some z → p i z := by
  induction n with
  | zero => exact ⟨[], rfl, fun i z hz => by simp at hz⟩
  | succ n ih =>
    obtain ⟨zs, hl, hz⟩ := ih fun i hi => h i (by omega)
    obtain ⟨z, hn⟩ := h n (by omega)
    refine ⟨zs ++ [z], by simp [hl], fun i z' hi => ?_⟩
    rw [List.getElem?_append] at hi
    split at hi
    · exact hz i z' hi
    · rename_i hge
      have : i = n := by
        obtain ⟨h1, _⟩ := List.getElem?_eq_some_iff.1 hi
        simp at h1; omega
      subst this
      rw [show i - zs.length = 0 from by omega] at hi
      obtain rfl := Option.some.inj hi
      exact hn
/-- A slice that came in, its elements told by an encoding. -/
theorem open_lies {H : Type} {enc : TypeId × Value → H} {P : Program} {w : World} {base : Nat} {spare : Nat → Bool} {held : Bool} {α : Type} {n : Nat} (E : EncK α n) (G : α → Prop) {t e : TypeId} (hn : 0 < n) (hu : P.underlying t = some (.slice e)) (cN : P.cellsOf e = n)
    (hc : ∀ fuel cs x, DataW.trod enc P w 0 spare held fuel e cs = some x → ∃ a, cs = E.enc a ∧ G a) {v : Value} {d : DataW H} {ps : List MemPlace} (hv : Value.okWide P w .any base t v) (h : DataW.Trod enc P w 0 spare held t v d ps) :
    ∃ (A : Option Addr) (c : Nat) (xs : List α), v = .slice A xs.length c ∧ LiesE E w (.slice A xs.length c) xs ∧ (∀ x ∈ xs, G x) ∧ xs.length ≤ 9223372036854775807 ∧ xs.length ≤ c := by
  obtain ⟨a0, n0, c0, rfl⟩ := okWide_slice hu hv
  obtain ⟨fuel, hf⟩ := h
  rcases Go.Deep.open_slice hu hf with ⟨hcs, _⟩ | ⟨a, len, cap, m, nn, D, Pl, hcs, hb, hl, hm, hmm, hx, hi⟩
  · have hcs' : [Value.slice a0 n0 c0] = [.slice none 0 0] := hcs
    simp only [List.cons.injEq, Value.slice.injEq, and_true] at hcs'
    obtain ⟨rfl, rfl, rfl⟩ := hcs'
    exact ⟨none, 0, [], rfl, .inl ⟨rfl, rfl⟩, (fun z h => absurd h List.not_mem_nil), (by rw [List.length_nil]; omega), Nat.le_refl _⟩
  · have hcs' : [Value.slice a0 n0 c0] = [.slice (some a) len cap] := hcs
    simp only [List.cons.injEq, Value.slice.injEq, and_true] at hcs'
    obtain ⟨rfl, rfl, rfl⟩ := hcs'
    have hlm : n0 ≤ m := by rw [hmm]; split <;> omega
    obtain ⟨zs, hlen, hz⟩ := list_ofL (n := n0) (p := fun i x => (∀ r u, (E.enc x)[r]? = some u → w.cell? (a.add (i * n + r)) = some u) ∧ G x) (fun i hin => by
      obtain ⟨cs', h1, h2⟩ := hi i (by omega)
      rw [cN] at h1
      obtain ⟨z, rfl, hg⟩ := hc _ _ _ h2
      obtain ⟨_, _, hat⟩ := World.cells?_some h1
      refine ⟨z, fun r u hr => ?_, hg⟩
      have hrn : r < n := by
        have := (List.getElem?_eq_some_iff.1 hr).1
        rwa [E.len] at this
      rw [← add_addE]
      exact (hat r hrn).trans hr)
    subst hlen
    refine ⟨some a, c0, zs, rfl, .inr ⟨a, c0, rfl, hl, fun j u hj => ?_⟩, fun z hzm => ?_, by unfold maxLen at hm; omega, hl⟩
    · have hjl := (List.getElem?_eq_some_iff.1 hj).1
      rw [cellsE_len] at hjl
      have hd : j / n < zs.length := (Nat.div_lt_iff_lt_mul hn).2 hjl
      have hjm : j / n * n + j % n = j := by rw [Nat.mul_comm]; exact Nat.div_add_mod j n
      have hzi := List.getElem?_eq_getElem hd
      have hg := cellsE_get E zs (j / n) (j % n) hzi (Nat.mod_lt _ hn)
      rw [hjm] at hg
      have := (hz _ _ hzi).1 (j % n) u (hg.symm.trans hj)
      rwa [hjm] at this
    · obtain ⟨i, hi'⟩ := List.getElem?_of_mem hzm
      exact (hz i z hi').2
end Go.Proofs.YtlckofoabnnlhaaDoor
