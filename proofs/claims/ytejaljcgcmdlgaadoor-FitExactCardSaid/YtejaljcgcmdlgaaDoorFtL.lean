/- Fit, told plainly, part 2: when a demand fits, how All ends. No conditions. -/
import Derived.Test.YtejaljcgcmdlgaaDoorFtM
namespace Go.Proofs.YtejaljcgcmdlgaaDoor
open Go

theorem fitS_iff (s : Spt) (x : V4) : fitS s x ↔ goodV s.left = true ∧ goodV x = true ∧ fitsV x s.left = true := by
  unfold fitS subR
  cases h1 : goodV s.left with
  | false => simp
  | true =>
    cases h2 : goodV x with
    | false => simp
    | true =>
      have g1 := (good_iff _).1 h1
      have g2 := (good_iff _).1 h2
      simp only [Bool.and_self, if_true, true_and]
      by_cases h3 : goodV ⟨s.left.a - x.a, s.left.b - x.b, s.left.c - x.c, s.left.d - x.d⟩ = true
      · rw [if_pos h3]
        have g3 := (good_iff _).1 h3
        simp only at g3
        simp only [true_iff]
        simp [fitsV]
        omega
      · rw [if_neg h3]
        simp only [Nat.reduceEqDiff, false_iff]
        intro h4
        simp [fitsV] at h4
        exact h3 ((good_iff _).2 (by simp only; omega))
theorem fitB (s : Spt) (x : V4) : decide (fitS s x) = (goodV s.left && goodV x && fitsV x s.left) := by
  rw [Bool.eq_iff_iff]
  simp only [decide_eq_true_eq, Bool.and_eq_true, fitS_iff, and_assoc]
/-- How All ends. -/
theorem allS_cases : ∀ (needs : List V4) (m : List Spt) (out : List Int) (i : Nat), ((allS m needs out i).2 = -1 ∧ ∃ l, (allS m needs out i).1 = out ++ l ∧ l.length = needs.length) ∨ (∃ k : Nat, allS m needs out i = ([], (k : Int)) ∧ i ≤ k ∧ k < i + needs.length)
  | [], m, out, i => .inl ⟨rfl, [], (List.append_nil _).symm, rfl⟩
  | x :: r, m, out, i => by
    unfold allS
    cases h : bestS x m with
    | none => exact .inr ⟨i, rfl, Nat.le_refl _, by rw [List.length_cons]; omega⟩
    | some p =>
      obtain ⟨a, t⟩ := p
      rcases allS_cases r (m.set a (cutS t x)) (out ++ [t.id]) (i + 1) with ⟨h1, l, h2, h3⟩ | ⟨k, h1, h2, h3⟩
      · exact .inl ⟨h1, t.id :: l, by simp only; rw [h2]; simp, by rw [List.length_cons, List.length_cons, h3]⟩
      · exact .inr ⟨k, h1, by omega, by rw [List.length_cons]; omega⟩
theorem allS_one (m : List Spt) (x : V4) : allS m [x] [] 0 = match bestS x m with
    | none => ([], 0)
    | some (_, t) => ([t.id], -1) := by
  unfold allS
  cases bestS x m with
  | none => rfl
  | some p => rfl
theorem allS_first {m : List Spt} {x : V4} {r : List V4} {a : Nat} {t : Spt} (h : bestS x m = some (a, t)) :
    (∃ l, allS m (x :: r) [] 0 = (t.id :: l, -1) ∧ l.length = r.length) ∨ (∃ k : Nat, allS m (x :: r) [] 0 = ([], (k : Int)) ∧ k < (x :: r).length) := by
  have e : allS m (x :: r) [] 0 = allS (m.set a (cutS t x)) r [t.id] 1 := by
    rw [allS, h]; rfl
  rw [e]
  rcases allS_cases r (m.set a (cutS t x)) [t.id] 1 with ⟨h1, l, h2, h3⟩ | ⟨k, h1, _, h3⟩
  · exact .inl ⟨l, by rw [← h1]; exact Prod.ext h2 rfl, h3⟩
  · exact .inr ⟨k, h1, by rw [List.length_cons]; omega⟩
end Go.Proofs.YtejaljcgcmdlgaaDoor
