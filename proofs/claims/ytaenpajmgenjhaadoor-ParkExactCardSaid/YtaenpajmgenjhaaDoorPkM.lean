/- Parks in plain words (stage 15): machines by their numbers. No conditions. -/
import Derived.Test.YtaenpajmgenjhaaDoorVecM
namespace Go.Proofs.YtaenpajmgenjhaaDoor

/-- A machine. -/
structure Mc where
  id : Int
  cell : Int
  has : V4
  st : Int
deriving DecidableEq
/-- The machine of a number. -/
def atP (P : List Mc) (i : Int) : Option Mc := P.find? fun m => m.id == i
/-- What stands at a number: its cell, what it has, its state; noughts where there is none. -/
def slotP (P : List Mc) (i : Int) : Mc := (atP P i).getD ⟨i, 0, ⟨0, 0, 0, 0⟩, 0⟩
/-- What holds of every park. -/
structure GP (P : List Mc) : Prop where
  ord : P.Pairwise fun x y => x.id < y.id
  ids : ∀ m ∈ P, 1 ≤ m.id ∧ m.id ≤ 999
  cells : ∀ m ∈ P, 1 ≤ m.cell ∧ m.cell ≤ 4
  good : ∀ m ∈ P, goodV m.has = true
  st : ∀ m ∈ P, 0 ≤ m.st ∧ m.st ≤ 2
  len : P.length ≤ 24
theorem at_some {P : List Mc} (h : P.Pairwise fun x y => x.id < y.id) {i : Int} {m : Mc} : atP P i = some m ↔ m ∈ P ∧ m.id = i := by
  unfold atP
  constructor
  · intro e
    exact ⟨List.mem_of_find?_eq_some e, by simpa using List.find?_some e⟩
  · rintro ⟨hm, rfl⟩
    induction P with
    | nil => cases hm
    | cons x P ih =>
      obtain ⟨h1, h2⟩ := List.pairwise_cons.1 h
      rcases List.mem_cons.1 hm with rfl | hm
      · simp
      · have := h1 m hm
        rw [List.find?_cons_of_neg (by simp; omega)]
        exact ih h2 hm
theorem at_none {P : List Mc} {i : Int} : atP P i = none ↔ ∀ m ∈ P, m.id ≠ i := by
  unfold atP
  rw [List.find?_eq_none]
  simp
theorem slot_some {P : List Mc} {i : Int} {m : Mc} (h : atP P i = some m) : slotP P i = m := by unfold slotP; rw [h]; rfl
theorem slot_none {P : List Mc} {i : Int} (h : atP P i = none) : slotP P i = ⟨i, 0, ⟨0, 0, 0, 0⟩, 0⟩ := by unfold slotP; rw [h]; rfl
/-- Is there one? Its cell tells it. -/
theorem slot_cell {P : List Mc} (h : GP P) (i : Int) : decide (0 < (slotP P i).cell) = (atP P i).isSome := by
  cases ha : atP P i with
  | none => rw [slot_none ha]; rfl
  | some m =>
    rw [slot_some ha]
    obtain ⟨hm, _⟩ := (at_some h.ord).1 ha
    have := h.cells m hm
    rw [decide_eq_true (by omega)]
    rfl
/-- Those of lower numbers. -/
def lowP (P : List Mc) (i : Int) : List Mc := P.filter fun m => decide (m.id < i)
theorem low_all {P : List Mc} (h : GP P) : lowP P 1000 = P := List.filter_eq_self.2 fun m hm => by have := h.ids m hm; simpa using (by omega : m.id < 1000)
theorem low_one {P : List Mc} (h : GP P) : lowP P 1 = [] := List.filter_eq_nil_iff.2 fun m hm => by have := h.ids m hm; simpa using (by omega : 1 ≤ m.id)
theorem low_succ {P : List Mc} (h : P.Pairwise fun x y => x.id < y.id) (i : Int) : lowP P (i + 1) = lowP P i ++ (atP P i).toList := by
  induction P with
  | nil => rfl
  | cons x P ih =>
    obtain ⟨h1, h2⟩ := List.pairwise_cons.1 h
    have ih := ih h2
    unfold lowP atP at *
    by_cases hx : x.id < i
    · rw [List.filter_cons_of_pos (by simp; omega), List.filter_cons_of_pos (by simpa using hx), ih, List.find?_cons_of_neg (by simp; omega)]
      rfl
    · have hP : P.filter (fun m => decide (m.id < i)) = [] := List.filter_eq_nil_iff.2 fun m hm => by have := h1 m hm; simpa using (by omega : i ≤ m.id)
      rw [hP] at ih
      have hA : (x :: P).filter (fun m => decide (m.id < i)) = [] := by rw [List.filter_cons_of_neg (by simpa using hx), hP]
      rw [hA, List.nil_append]
      by_cases he : x.id = i
      · have hP2 : P.filter (fun m => decide (m.id < i + 1)) = [] := List.filter_eq_nil_iff.2 fun m hm => by have := h1 m hm; simpa using (by omega : i + 1 ≤ m.id)
        rw [List.filter_cons_of_pos (by simp; omega), hP2, List.find?_cons_of_pos (by simpa using he)]
        rfl
      · rw [List.filter_cons_of_neg (by simp; omega), List.find?_cons_of_neg (by simpa using he), ih, List.nil_append]
end Go.Proofs.YtaenpajmgenjhaaDoor
