/- Rows that are read only. No conditions. -/
import Derived.Test.YtlckofoabnnlhaaDoorRwL
namespace Go.Proofs.YtlckofoabnnlhaaDoor
open Go Go.RowKit

/-- A slice's elements lie where its address says. -/
def ReadsE {α : Type} {n : Nat} (E : EncK α n) (w : World) (A : Option Addr) (L : List α) : Prop :=
  ∀ i x, L[i]? = some x → ∃ ad p, A = some ad ∧ ad.add (i * n) = p ∧ p.block < w.heap.size ∧ ∀ r u, (E.enc x)[r]? = some u → w.cell? (p.add r) = some u
theorem block_add16 (p : Addr) (r : Nat) : (p.add r).block = p.block := by unfold Addr.add; split <;> rfl
theorem ReadsE.on {α : Type} {n : Nat} {E : EncK α n} {w w' : World} {A : Option Addr} {L : List α} (h : ReadsE E w A L) (hb : Below w.heap.size w w') : ReadsE E w' A L := fun i x hi => by
  obtain ⟨ad, p, h1, h2, h3, h4⟩ := h i x hi
  exact ⟨ad, p, h1, h2, Nat.lt_of_lt_of_le h3 hb.size, fun r u hu => (hb.cell (p := p.add r) (by rw [block_add16]; exact h3)).trans (h4 r u hu)⟩
theorem own_reads {α : Type} {n : Nat} {E : EncK α n} {e : TypeId} {w : World} {base m c : Nat} {A : Option Addr} {L : List α} (h : OwnE E e w base (.slice A m c) L) : ReadsE E w A L := fun i x hi => by
  obtain ⟨ad, g, h1, h2, _, h4, _, h6⟩ := h.at hi
  exact ⟨ad, _, h1, h2, h4, fun r u hu => by rw [Addr.add_lit]; exact h6 r u hu⟩
def encI : EncK Int 1 where
  enc x := [.int .i64 x]
  len _ := rfl
  one x u hu := by simp at hu; rcases hu with rfl; rfl
theorem lies_reads {α : Type} {n : Nat} {E : EncK α n} (hn : 0 < n) {w : World} {A : Option Addr} {m c : Nat} {L : List α} (h : LiesE E w (.slice A m c) L) : ReadsE E w A L := fun i x hi => by
  obtain ⟨ad, e, h1, h2⟩ := h.at hi
  refine ⟨ad, ad.add (i * n), e, rfl, ?_, fun r u hu => ?_⟩
  · rw [block_add16]; exact h1 hn
  · rw [add_addE]; exact h2 r u hu
end Go.Proofs.YtlckofoabnnlhaaDoor
