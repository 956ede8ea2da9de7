/- Rows of anything: a literal's row; the parts of a type's description. No conditions. -/
import Derived.Test.YtlckofoabnnlhaaDoorRwT
namespace Go.Proofs.YtlckofoabnnlhaaDoor
open Go Go.RowKit

theorem lies_lit {α : Type} {n : Nat} (E : EncK α n) {w : World} {g : Nat} {t : TypeId} (L : List α) (h : w.heap[g]? = some (.cells (cellsE E L).toArray t (0, 0))) : LiesE E w (.slice (some ⟨g, 0, none⟩) L.length L.length) L :=
  .inr ⟨_, _, rfl, Nat.le_refl _, fun j u hu => by rw [Addr.add_lit, Nat.zero_add, cell_of_heap h, List.getElem?_toArray]; exact hu⟩
theorem own_lit {α : Type} {n : Nat} (E : EncK α n) {w : World} {g : Nat} {t : TypeId} (L : List α) (h : w.heap[g]? = some (.cells (cellsE E L).toArray t (0, 0))) (hl : L.length ≤ maxLen) : OwnE E t w g (.slice (some ⟨g, 0, none⟩) L.length L.length) L :=
  ownE_of h (Nat.le_refl _) (Nat.le_refl _) hl (by simp [cellsE_len]) fun j u hu => by rw [cell_of_heap h, List.getElem?_toArray]; exact hu
/-- Two rows that the calls have made of different element types lie apart. -/
theorem rows_apart {α β : Type} {n m : Nat} {E : EncK α n} {F : EncK β m} {e f : TypeId} {w : World} {b c : Nat} {u v : Value} {L : List α} {M : List β} (h : OwnE E e w b u L) (k : OwnE F f w c v M) (hne : e ≠ f) : ∀ i, u.ownBlock = some i → v.ownBlock ≠ some i := by
  intro i hi hj
  rcases h.2 with ⟨rfl, _⟩ | ⟨g, cap, cur, rfl, _, hh, _⟩
  · simp [Value.ownBlock] at hi
  · rcases k.2 with ⟨rfl, _⟩ | ⟨g', cap', cur', rfl, _, hh', _⟩
    · simp [Value.ownBlock] at hj
    · simp [Value.ownBlock] at hi hj
      subst hi; subst hj
      rw [hh] at hh'
      simp at hh'
      exact hne hh'.2
/-- A row's block is not one of another type. -/
theorem own_ne {α : Type} {n : Nat} {E : EncK α n} {e t : TypeId} {W : World} {base gx : Nat} {v : Value} {L : List α} {cs : Array Value} (h : OwnE E e W base v L) (hx : W.heap[gx]? = some (.cells cs t (0, 0))) (hne : t ≠ e) : v.ownBlock ≠ some gx := by
  intro hv
  rcases h.2 with ⟨rfl, _⟩ | ⟨g, cap, cur, rfl, _, hh, _⟩
  · simp [Value.ownBlock] at hv
  · simp [Value.ownBlock] at hv
    subst hv
    rw [hh] at hx
    simp at hx
    exact hne hx.2.symm
end Go.Proofs.YtlckofoabnnlhaaDoor
