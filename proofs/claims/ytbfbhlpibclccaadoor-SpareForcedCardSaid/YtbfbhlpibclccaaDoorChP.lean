/- Rows that are read only. No conditions. -/
import Derived.Test.YtbfbhlpibclccaaDoorRwL
import Derived.Test.YtbfbhlpibclccaaDoorChg
namespace Go.Proofs.YtbfbhlpibclccaaDoor
open Go Go.RowKit

/-- A slice's elements lie where its address says. -/
def ReadsE {α : Type} {n : Nat} (E : EncK α n) (w : World) (A : Option Addr) (L : List α) : Prop :=
  ∀ i x, L[i]? = some x → ∃ ad p, A = some ad ∧ ad.add (i * n) = p ∧ p.block < w.heap.size ∧ ∀ r u, (E.enc x)[r]? = some u → w.cell? (p.add r) = some u
theorem block_add16 (p : Addr) (r : Nat) : (p.add r).block = p.block := by unfold Addr.add; split <;> rfl
theorem ReadsE.on {α : Type} {n : Nat} {E : EncK α n} {w w' : World} {A : Option Addr} {L : List α} (h : ReadsE E w A L) (hb : Below w.heap.size w w') : ReadsE E w' A L := fun i x hi => by
  obtain ⟨ad, p, h1, h2, h3, h4⟩ := h i x hi
  exact ⟨ad, p, h1, h2, Nat.lt_of_lt_of_le h3 hb.size, fun r u hu => (hb.cell (p := p.add r) (by rw [block_add16]; exact h3)).trans (h4 r u hu)⟩
theorem own_reads {α : Type} {n : Nat} {E : EncK α n} {e : TypeId} {w : World} {base m c : Nat} {A : Option Addr} {L : List α} (h : OwnE E e w base (.slice A m c) L) : ReadsE E w A L := fun i x hi => by
  obtain ⟨ad, g, h1, h2, _, h4, _, h6⟩ := h.at hi
  exact ⟨ad, _, h1, h2, h4, fun r u hu => by rw [Addr.add_lit]; exact h6 r u hu⟩
def encI : EncK Int 1 where
  enc x := [.int .i64 x]
  len _ := rfl
  one x u hu := by simp at hu; rcases hu with rfl; rfl
theorem lies_reads {α : Type} {n : Nat} {E : EncK α n} (hn : 0 < n) {w : World} {A : Option Addr} {m c : Nat} {L : List α} (h : LiesE E w (.slice A m c) L) : ReadsE E w A L := fun i x hi => by
  obtain ⟨ad, e, h1, h2⟩ := h.at hi
  refine ⟨ad, ad.add (i * n), e, rfl, ?_, fun r u hu => ?_⟩
  · rw [block_add16]; exact h1 hn
  · rw [add_addE]; exact h2 r u hu
end Go.Proofs.YtbfbhlpibclccaaDoor

/- The frame of an object of many blocks: nothing that was there has turned but the blocks of a predicate. No conditions. -/
namespace Go.Proofs.YtbfbhlpibclccaaDoor
open Go Go.RowKit

/-- Between the worlds w and w' nothing that was there has turned but blocks of P. -/
structure ChP (P : Nat → Prop) (w w' : World) : Prop where
  os : w'.os = w.os
  tape : w'.tape = w.tape
  output : w'.output = w.output
  size : w.heap.size ≤ w'.heap.size
  block : ∀ k, k < w.heap.size → ¬ P k → w'.heap[k]? = w.heap[k]?
theorem ChP.refl (P : Nat → Prop) (w : World) : ChP P w w := ⟨rfl, rfl, rfl, Nat.le_refl _, fun _ _ _ => rfl⟩
theorem ChP.of_below {P : Nat → Prop} {a b : World} (h : Below a.heap.size a b) : ChP P a b := ⟨h.os, h.tape, h.output, h.size, fun k hk _ => h.block k hk⟩
theorem ChP.trans {P Q : Nat → Prop} {a b c : World} (h : ChP P a b) (k : ChP Q b c) (hq : ∀ i, Q i → P i ∨ a.heap.size ≤ i) : ChP P a c :=
  ⟨k.os.trans h.os, k.tape.trans h.tape, k.output.trans h.output, Nat.le_trans h.size k.size, fun i hi hP =>
    (k.block i (Nat.lt_of_lt_of_le hi h.size) fun hQ => by rcases hq i hQ with h1 | h1; exact hP h1; omega).trans (h.block i hi hP)⟩
theorem ChP.below {P : Nat → Prop} {B : Nat} {a b : World} (h : ChP P a b) (hP : ∀ k, P k → B ≤ k) (hB : B ≤ a.heap.size) : Below B a b :=
  ⟨h.os, h.tape, h.output, h.size, fun k hk => h.block k (by omega) fun hp => by have := hP k hp; omega⟩
theorem ChP.then {P : Nat → Prop} {a b c : World} (h : ChP P a b) (k : Below b.heap.size b c) : ChP P a c := h.trans (Q := P) (ChP.of_below k) fun _ h => .inl h
theorem ChP.drew {P : Nat → Prop} {a w : World} (h : ChP P a w) : ChP P a w.drew := ⟨h.os, h.tape, h.output, h.size, h.block⟩
theorem ChP.drewN {P : Nat → Prop} {a w : World} (h : ChP P a w) (n : Nat) : ChP P a (w.drewN n) := ⟨h.os, h.tape, h.output, h.size, h.block⟩
theorem ChP.alloc {P : Nat → Prop} {a w : World} (h : ChP P a w) (o : Obj) : ChP P a (w.alloc o) :=
  ⟨h.os, h.tape, h.output, Nat.le_trans h.size (by simp), fun k hk h1 => (Below.heap_alloc w o k (Nat.lt_of_lt_of_le hk h.size)).trans (h.block k hk h1)⟩
theorem ChP.setCell {P : Nat → Prop} {a w : World} (h : ChP P a w) {ad : Addr} (ha : P ad.block ∨ a.heap.size ≤ ad.block) (u : Value) : ChP P a (w.setCell ad u) :=
  ⟨h.os, h.tape, h.output, Nat.le_trans h.size (by simp [World.setCell]), fun k hk h1 => (Below.heap_setCell w ad u k (by rcases ha with h2 | h2; exact fun e => h1 (e ▸ h2); omega)).trans (h.block k hk h1)⟩
theorem ChP.grown {P : Nat → Prop} {a w w' : World} {row : Option Nat} (h : ChP P a w) (hg : w.grownBy w' row) (hr : ∀ k, row = some k → P k ∨ a.heap.size ≤ k) : ChP P a w' :=
  ⟨hg.os.trans h.os, hg.tape.trans h.tape, hg.output.trans h.output, Nat.le_trans h.size hg.size, fun k hk h1 =>
    (hg.block k (Nat.lt_of_lt_of_le hk h.size) (fun e => by rcases hr k e.symm with h2 | h2; exact h1 h2; omega)).trans (h.block k hk h1)⟩
theorem ChP.row {P : Nat → Prop} {a b : World} (h : ChP P a b) {k : Nat} {o : Obj} (hk : a.heap[k]? = some o) (h1 : ¬ P k) : b.heap[k]? = some o :=
  (h.block k (Array.getElem?_eq_some_iff.1 hk).1 h1).trans hk
end Go.Proofs.YtbfbhlpibclccaaDoor
