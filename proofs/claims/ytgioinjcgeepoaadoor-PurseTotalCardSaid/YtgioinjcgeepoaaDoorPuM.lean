/- Purses in plain words: who has what, what a deed changes, which error it has. No program, no conditions. -/
import Derived.Test.YtgioinjcgeepoaaDoorMpI
namespace Go.Proofs.YtgioinjcgeepoaaDoor
open Go Go.RowKit

/-- Tenants with what is free and what is held. -/
abbrev Pur := List (Int × Int × Int)
def purse (P : Pur) (x : Int) : Int × Int := (look P x).getD (0, 0)
def worth (p : Int × Int) : Int := p.1 + p.2
def wealth (P : Pur) : Int := tot worth P
def change (P : Pur) (x f h : Int) : Pur := if (purse P x).1 + f = 0 ∧ (purse P x).2 + h = 0 then strike P x else enter P x ((purse P x).1 + f, (purse P x).2 + h)
/-- No key twice, nobody less than nothing, none empty, at most the most together. -/
structure Solid (P : Pur) : Prop where
  apart : Apart P
  each : ∀ x p, look P x = some p → 0 ≤ p.1 ∧ 0 ≤ p.2 ∧ 0 < worth p
  most : wealth P ≤ 1125899906842624

theorem Solid.empty : Solid [] := ⟨trivial, fun _ _ h => (by cases h), by decide⟩
theorem Solid.mem {P : Pur} (h : Solid P) : ∀ p ∈ P, 0 ≤ worth p.2 := fun p hp => by have := (h.each p.1 p.2 (mem_look h.apart hp)).2.2; omega
theorem Solid.free {P : Pur} (h : Solid P) (x : Int) : 0 ≤ (purse P x).1 := by
  unfold purse
  cases e : look P x with
  | none => exact Int.le_refl _
  | some p => exact (h.each x p e).1
theorem Solid.held {P : Pur} (h : Solid P) (x : Int) : 0 ≤ (purse P x).2 := by
  unfold purse
  cases e : look P x with
  | none => exact Int.le_refl _
  | some p => exact (h.each x p e).2.1
theorem Solid.nonneg {P : Pur} (h : Solid P) : 0 ≤ wealth P := tot_nonneg worth h.mem
theorem Solid.one {P : Pur} (h : Solid P) (x : Int) : (purse P x).1 + (purse P x).2 ≤ wealth P := by
  unfold purse
  cases e : look P x with
  | none => exact h.nonneg
  | some p => exact tot_one worth h.mem e
theorem purse_eq (P : Pur) (x : Int) : at0 worth (look P x) = (purse P x).1 + (purse P x).2 := by
  unfold purse
  cases look P x <;> rfl
theorem purse_change (P : Pur) (x f h y : Int) : purse (change P x f h) y = if y = x then ((purse P x).1 + f, (purse P x).2 + h) else purse P y := by
  unfold change
  by_cases e : (purse P x).1 + f = 0 ∧ (purse P x).2 + h = 0
  · rw [if_pos e]
    by_cases k : y = x
    · rw [if_pos k, e.1, e.2, purse, look_strike, if_pos k]; rfl
    · rw [if_neg k, purse, look_strike, if_neg k]; rfl
  · rw [if_neg e]
    by_cases k : y = x
    · rw [if_pos k, purse, look_enter, if_pos k]; rfl
    · rw [if_neg k, purse, look_enter, if_neg k]; rfl
theorem wealth_change {P : Pur} (h : Apart P) (x f g : Int) : wealth (change P x f g) = wealth P + f + g := by
  unfold change wealth
  by_cases e : (purse P x).1 + f = 0 ∧ (purse P x).2 + g = 0
  · rw [if_pos e, tot_strike _ h, purse_eq]; omega
  · rw [if_neg e, tot_enter _ h, purse_eq]; simp only [worth]; omega
theorem change_len (P : Pur) (x f g : Int) : (change P x f g).length ≤ P.length + 1 := by
  unfold change
  split
  · have := strike_le P x; omega
  · exact enter_le P x _
theorem Solid.change {P : Pur} (h : Solid P) {x f g : Int} (hf : 0 ≤ (purse P x).1 + f) (hg : 0 ≤ (purse P x).2 + g) (hm : wealth P + f + g ≤ 1125899906842624) : Solid (change P x f g) where
  apart := by unfold Proofs.YtgioinjcgeepoaaDoor.change; split <;> first | exact h.apart.strike x | exact h.apart.enter x _
  each := fun y p hy => by
    have e1 := purse_change P x f g y
    unfold purse at e1
    rw [hy, Option.getD_some] at e1
    by_cases k : y = x
    · subst k
      rw [if_pos rfl] at e1
      by_cases e : (purse P y).1 + f = 0 ∧ (purse P y).2 + g = 0
      · rw [Proofs.YtgioinjcgeepoaaDoor.change, if_pos e, look_strike, if_pos rfl] at hy; cases hy
      · subst e1
        refine ⟨hf, hg, ?_⟩
        show 0 < ((purse P y).1 + f) + ((purse P y).2 + g)
        omega
    · have : look P y = some p := by
        unfold Proofs.YtgioinjcgeepoaaDoor.change at hy
        split at hy
        · rw [look_strike, if_neg k] at hy; exact hy
        · rw [look_enter, if_neg k] at hy; exact hy
      exact h.each y p this
  most := by rw [wealth_change h.apart]; exact hm

/-- Whether a number is an amount. -/
def amount (n : Int) : Prop := 0 ≤ n ∧ n ≤ 1125899906842624
instance (n : Int) : Decidable (amount n) := by unfold amount; exact inferInstance
def giveErr (P : Pur) (n : Int) : Nat := if ¬ amount n then 1 else if 1125899906842624 < wealth P + n then 4 else 0
def takeErr (P : Pur) (x n : Int) : Nat := if ¬ amount n then 1 else if (purse P x).1 < n then 12 else 0
def payErr (P : Pur) (x n : Int) : Nat := if ¬ amount n then 1 else if (purse P x).2 < n then 13 else 0
def given (P : Pur) (x n : Int) : Pur := if giveErr P n = 0 then change P x n 0 else P
def taken (P : Pur) (x n : Int) : Pur := if takeErr P x n = 0 then change P x (-n) 0 else P
def holds (P : Pur) (x n : Int) : Pur := if takeErr P x n = 0 then change P x (-n) n else P
def paid (P : Pur) (x y n : Int) : Pur := if payErr P x n = 0 then change (change P x 0 (-n)) y n 0 else P
theorem giveErr_zero {P : Pur} {n : Int} (h : giveErr P n = 0) : amount n ∧ wealth P + n ≤ 1125899906842624 := by
  unfold giveErr at h
  by_cases c1 : amount n
  · rw [if_neg (by simpa using c1)] at h
    by_cases c2 : 1125899906842624 < wealth P + n
    · rw [if_pos c2] at h; cases h
    · exact ⟨c1, by omega⟩
  · rw [if_pos c1] at h; cases h
theorem takeErr_zero {P : Pur} {x n : Int} (h : takeErr P x n = 0) : amount n ∧ n ≤ (purse P x).1 := by
  unfold takeErr at h
  by_cases c1 : amount n
  · rw [if_neg (by simpa using c1)] at h
    by_cases c2 : (purse P x).1 < n
    · rw [if_pos c2] at h; cases h
    · exact ⟨c1, by omega⟩
  · rw [if_pos c1] at h; cases h
theorem payErr_zero {P : Pur} {x n : Int} (h : payErr P x n = 0) : amount n ∧ n ≤ (purse P x).2 := by
  unfold payErr at h
  by_cases c1 : amount n
  · rw [if_neg (by simpa using c1)] at h
    by_cases c2 : (purse P x).2 < n
    · rw [if_pos c2] at h; cases h
    · exact ⟨c1, by omega⟩
  · rw [if_pos c1] at h; cases h
theorem giveErr_le (P : Pur) (n : Int) : giveErr P n ≤ 14 := by unfold giveErr; split <;> first | omega | (split <;> omega)
theorem takeErr_le (P : Pur) (x n : Int) : takeErr P x n ≤ 14 := by unfold takeErr; split <;> first | omega | (split <;> omega)
theorem payErr_le (P : Pur) (x n : Int) : payErr P x n ≤ 14 := by unfold payErr; split <;> first | omega | (split <;> omega)
theorem Solid.given {P : Pur} (h : Solid P) (x n : Int) : Solid (given P x n) := by
  unfold Proofs.YtgioinjcgeepoaaDoor.given
  split
  · rename_i e
    obtain ⟨⟨h0, _⟩, h2⟩ := giveErr_zero e
    have := h.free x; have := h.held x
    exact h.change (by omega) (by omega) (by omega)
  · exact h
theorem Solid.taken {P : Pur} (h : Solid P) (x n : Int) : Solid (taken P x n) := by
  unfold Proofs.YtgioinjcgeepoaaDoor.taken
  split
  · rename_i e
    obtain ⟨⟨h0, _⟩, h2⟩ := takeErr_zero e
    have := h.free x; have := h.held x; have := h.most
    exact h.change (by omega) (by omega) (by omega)
  · exact h
theorem Solid.holds {P : Pur} (h : Solid P) (x n : Int) : Solid (holds P x n) := by
  unfold Proofs.YtgioinjcgeepoaaDoor.holds
  split
  · rename_i e
    obtain ⟨⟨h0, _⟩, h2⟩ := takeErr_zero e
    have := h.free x; have := h.held x; have := h.most
    exact h.change (by omega) (by omega) (by omega)
  · exact h
theorem Solid.pay1 {P : Pur} (h : Solid P) {x n : Int} (e : payErr P x n = 0) : Solid (Proofs.YtgioinjcgeepoaaDoor.change P x 0 (-n)) := by
  obtain ⟨⟨h0, _⟩, h2⟩ := payErr_zero e
  have := h.free x; have := h.held x; have := h.most
  exact h.change (by omega) (by omega) (by omega)
theorem Solid.paid {P : Pur} (h : Solid P) (x y n : Int) : Solid (paid P x y n) := by
  unfold Proofs.YtgioinjcgeepoaaDoor.paid
  split
  · rename_i e
    have h1 := h.pay1 e
    obtain ⟨⟨h0, _⟩, h2⟩ := payErr_zero e
    have := h1.free y; have := h1.held y; have := h.most
    exact h1.change (by omega) (by omega) (by rw [wealth_change h.apart]; omega)
  · exact h

/-- A deed of the law: 1 gives, 2 takes, 3 holds, 4 frees, another pays. -/
def deedErr (P : Pur) (k x n : Int) : Nat := if k = 1 then giveErr P n else if k = 2 then takeErr P x n else if k = 3 then takeErr P x n else payErr P x n
def deed (P : Pur) (k x y n : Int) : Pur := if k = 1 then given P x n else if k = 2 then taken P x n else if k = 3 then holds P x n else if k = 4 then paid P x x n else paid P x y n
theorem Solid.deed {P : Pur} (h : Solid P) (k x y n : Int) : Solid (deed P k x y n) := by
  unfold Proofs.YtgioinjcgeepoaaDoor.deed
  split; exact h.given x n
  split; exact h.taken x n
  split; exact h.holds x n
  split; exact h.paid x x n
  exact h.paid x y n
theorem deed_len (P : Pur) (k x y n : Int) : (deed P k x y n).length ≤ P.length + 2 := by
  have c1 := fun f g => change_len P x f g
  have c2 := fun y f g => change_len (change P x 0 (-n)) y f g
  have c3 := c1 0 (-n)
  unfold deed given taken holds paid
  split
  · split <;> first | (have := c1 n 0; omega) | omega
  split
  · split <;> first | (have := c1 (-n) 0; omega) | omega
  split
  · split <;> first | (have := c1 (-n) n; omega) | omega
  split
  · split <;> first | (have := c2 x n 0; omega) | omega
  · split <;> first | (have := c2 y n 0; omega) | omega
/-- What a deed adds to all. -/
def gain (P : Pur) (k x n : Int) : Int := if deedErr P k x n = 0 then (if k = 1 then n else if k = 2 then -n else 0) else 0
theorem wealth_deed {P : Pur} (h : Solid P) (k x y n : Int) : wealth (deed P k x y n) = wealth P + gain P k x n := by
  have w1 := fun f g => wealth_change h.apart x f g
  unfold gain deed deedErr
  by_cases k1 : k = 1
  · simp only [if_pos k1, given]
    split
    · rw [w1]; omega
    · omega
  simp only [if_neg k1]
  by_cases k2 : k = 2
  · simp only [if_pos k2, taken]
    split
    · rw [w1]; omega
    · omega
  simp only [if_neg k2]
  by_cases k3 : k = 3
  · simp only [if_pos k3, holds]
    split
    · rw [w1]; omega
    · omega
  simp only [if_neg k3]
  by_cases k4 : k = 4
  · simp only [if_pos k4, paid]
    split
    · rename_i e; rw [wealth_change (h.pay1 e).apart, w1]; omega
    · omega
  · simp only [if_neg k4, paid]
    split
    · rename_i e; rw [wealth_change (h.pay1 e).apart, w1]; omega
    · omega
theorem deed_bad {P : Pur} {k x y n : Int} (h : deedErr P k x n ≠ 0) : deed P k x y n = P := by
  unfold deedErr at h
  unfold deed
  by_cases k1 : k = 1
  · rw [if_pos k1] at h ⊢; rw [given, if_neg h]
  rw [if_neg k1] at h ⊢
  by_cases k2 : k = 2
  · rw [if_pos k2] at h ⊢; rw [taken, if_neg h]
  rw [if_neg k2] at h ⊢
  by_cases k3 : k = 3
  · rw [if_pos k3] at h ⊢; rw [holds, if_neg h]
  rw [if_neg k3] at h ⊢
  by_cases k4 : k = 4
  · rw [if_pos k4, paid, if_neg h]
  · rw [if_neg k4, paid, if_neg h]
theorem deedErr_le (P : Pur) (k x n : Int) : deedErr P k x n ≤ 14 := by
  unfold deedErr
  split; exact giveErr_le P n
  split; exact takeErr_le P x n
  split; exact takeErr_le P x n
  exact payErr_le P x n
end Go.Proofs.YtgioinjcgeepoaaDoor
