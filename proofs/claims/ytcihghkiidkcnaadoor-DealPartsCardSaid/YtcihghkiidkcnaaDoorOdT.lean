/- The reference's book of stage 13 by contracts: Cut. Conditions: the book is one that the calls have made. -/
import Derived.Test.YtcihghkiidkcnaaDoorOdS
import Derived.StillTailTactics
namespace Go.Proofs.YtcihghkiidkcnaaDoor
open Go Go.RowKit

theorem posI_set {L : List Od} {id : Int} {i : Nat} {x x' : Od} (hp : posI L id = (i : Nat)) (hi : L[i]? = some x) (he : x'.id = x.id) : posI (L.set i x') id = (i : Nat) ∧ (L.set i x')[i]? = some x' ∧ pos (L.set i x') id = i := by
  have hl := (List.getElem?_eq_some_iff.1 hi).1
  have hpos : pos L id = i := by
    unfold posI at hp
    split at hp <;> omega
  have hid : x.id = id := by
    rcases posI_cases L id with ⟨j, y, _, h2, h3, h4⟩ | ⟨h1, h2⟩
    · obtain rfl : j = i := h2.symm.trans hpos
      rw [hi] at h3; obtain rfl := Option.some.inj h3; exact h4
    · omega
  have hget : (L.set i x')[i]? = some x' := by rw [List.getElem?_set_self hl]
  have hno : ∀ j y, j < i → (L.set i x')[j]? = some y → y.id ≠ id := by
    intro j y hj hy
    rw [List.getElem?_set_ne (by omega)] at hy
    have hjl := (List.getElem?_eq_some_iff.1 hy).1
    have := List.not_of_lt_findIdx (p := fun z : Od => z.id == id) (xs := L) (i := j) (by unfold pos at hpos; omega)
    obtain ⟨_, rfl⟩ := List.getElem?_eq_some_iff.1 hy
    simpa using this
  exact ⟨posI_is hget (he.trans hid) hno, hget, pos_is hget (he.trans hid) hno⟩

end Go.Proofs.YtcihghkiidkcnaaDoor
