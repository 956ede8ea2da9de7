/- The reference's fit by contract: At. Conditions: the spots lie in memory. -/
import Derived.Test.YtlckofoabnnlhaaDoorFtU
namespace Go.Proofs.YtlckofoabnnlhaaDoor
open Go Go.RowKit

/-- The place of the best, as the reference tells it. -/
def placeS : Option (Nat × Spt) → Int
  | none => -1
  | some (a, _) => (a : Int)
theorem own_spt {t : TypeId} {w : World} {base m c : Nat} {A : Option Addr} {L : List Spt} (h : OwnE encSpt t w base (.slice A m c) L) {i : Nat} {s : Spt} (hi : L[i]? = some s) :
    ∃ ad ga, A = some ad ∧ (∀ j, j < L.length → ad.add (j * 5) = ⟨ga, j * 5, none⟩) ∧ SpAt w ga (i * 5) s ∧ (∀ j y, L[j]? = some y → SpAt w ga (j * 5) y) := by
  obtain ⟨g, cap, hv, _, _, hg, hf, hc⟩ := h.some (Nat.lt_of_le_of_lt (Nat.zero_le _) (List.getElem?_eq_some_iff.1 hi).1)
  simp only [Value.slice.injEq] at hv
  obtain ⟨rfl, _, _⟩ := hv
  have key : ∀ j y, L[j]? = some y → SpAt w g (j * 5) y := fun j y hj => ⟨hc j y hj 0 _ rfl, hc j y hj 1 _ rfl, hc j y hj 2 _ rfl, hc j y hj 3 _ rfl, hc j y hj 4 _ rfl, hg, hf⟩
  exact ⟨_, g, rfl, fun j _ => by unfold Addr.add; split <;> simp_all, key i s hi, key⟩

end Go.Proofs.YtlckofoabnnlhaaDoor
