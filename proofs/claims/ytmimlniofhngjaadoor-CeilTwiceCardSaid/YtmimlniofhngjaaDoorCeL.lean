/- What the plain ceilings tell of each other: a room and an excess, what may be given out and what is then. No conditions. -/
import Derived.Test.YtmimlniofhngjaaDoorCeM
namespace Go.Proofs.YtmimlniofhngjaaDoor
def V4.at_ (x : V4) (j : Nat) : Int := match j with | 0 => x.a | 1 => x.b | 2 => x.c | _ => x.d
/-- Is what is asked of a resource none, or within its room? -/
def okJ (m r : Int) : Bool := (m == 0) || decide (m ≤ r)
def okN (m r : V4) (j : Nat) : Bool := (List.range j).all fun k => okJ (m.at_ k) (r.at_ k)
theorem okN_zero (m r : V4) : okN m r 0 = true := rfl
theorem okN_succ (m r : V4) (j : Nat) : okN m r (j + 1) = (okN m r j && okJ (m.at_ j) (r.at_ j)) := by
  unfold okN; rw [List.range_succ, List.all_append]; simp
theorem okN_four (m r : V4) : okN m r 4 = (okJ m.a r.a && okJ m.b r.b && okJ m.c r.c && okJ m.d r.d) := by
  rw [okN_succ, okN_succ, okN_succ, okN_succ, okN_zero]; rfl

theorem over_not_both (x y : Int) : ¬ (atLeast0 (x - y) > 0 ∧ atLeast0 (y - x) > 0) := by
  unfold atLeast0; split <;> split <;> omega
/-- A resource of which it is not too much is one whose room suffices. -/
theorem ok_iff {i m t : Int} (hm : 0 ≤ m) : okJ m (atLeast0 (t - i)) = !badB m (i + m) t := by
  unfold okJ badB atLeast0
  rw [Bool.eq_iff_iff]
  by_cases h : m = 0
  · subst h; simp
  · have e1 : (m == 0) = false := by simpa using h
    have e2 : (m != 0) = true := by simpa using h
    rw [e1, e2]
    simp only [Bool.false_or, Bool.true_and, decide_eq_true_eq, Bool.not_eq_true', decide_eq_false_iff_not]
    split <;> omega
theorem add_sum {i m : V4} (h : (addR i m).2 = 0) : goodV i = true ∧ goodV m = true ∧ (addR i m).1 = ⟨i.a + m.a, i.b + m.b, i.c + m.c, i.d + m.d⟩ ∧ goodV (addR i m).1 = true := by
  unfold addR at h ⊢
  cases hi : goodV i <;> cases hm : goodV m <;> simp only [hi, hm, Bool.and_true, Bool.and_false, Bool.and_self, Bool.false_eq_true, ↓reduceIte] at h ⊢ <;> try (exact absurd h (by decide))
  split at h
  · rename_i hg; rw [if_pos hg]; exact ⟨trivial, trivial, rfl, hg⟩
  · exact absurd h (by decide)
theorem okN_first {i m t : V4} (h : (addR i m).2 = 0) : okN m (overV t i) 4 = decide (firstB m (addR i m).1 t = 4) := by
  obtain ⟨hi, hm, hs, _⟩ := add_sum h
  obtain ⟨⟨a0, _⟩, ⟨b0, _⟩, ⟨c0, _⟩, ⟨d0, _⟩⟩ := (good_iff m).1 hm
  rw [okN_four, hs]
  unfold overV firstB
  simp only []
  rw [ok_iff a0, ok_iff b0, ok_iff c0, ok_iff d0]
  cases badB m.a (i.a + m.a) t.a <;> cases badB m.b (i.b + m.b) t.b <;> cases badB m.c (i.c + m.c) t.c <;> cases badB m.d (i.d + m.d) t.d <;> rfl
theorem first4_ok {m s t : V4} (h : firstB m s t = 4) : badB m.a s.a t.a = false ∧ badB m.b s.b t.b = false ∧ badB m.c s.c t.c = false ∧ badB m.d s.d t.d = false := by
  unfold firstB at h
  cases h0 : badB m.a s.a t.a <;> cases h1 : badB m.b s.b t.b <;> cases h2 : badB m.c s.c t.c <;> cases h3 : badB m.d s.d t.d <;> simp only [h0, h1, h2, h3, Bool.false_eq_true, ↓reduceIte] at h <;> first | exact ⟨rfl, rfl, rfl, rfl⟩ | omega
theorem bad_no {m s t : Int} (h : badB m s t = false) : m = 0 ∨ s ≤ t := by
  unfold badB at h
  rcases Bool.and_eq_false_iff.1 h with h | h
  · left; simpa using h
  · right; have := of_decide_eq_false h; omega
theorem no_bad {m s t : Int} (h : m = 0 ∨ s ≤ t) : badB m s t = false := by
  unfold badB
  rcases h with h | h
  · subst h; rfl
  · rw [decide_eq_false (by omega)]; simp
theorem first_of {m s t : V4} (h : badB m.a s.a t.a = false ∧ badB m.b s.b t.b = false ∧ badB m.c s.c t.c = false ∧ badB m.d s.d t.d = false) : firstB m s t = 4 := by
  unfold firstB; rw [h.1, h.2.1, h.2.2.1, h.2.2.2]; rfl
/-- What was allowed makes no excess greater. -/
theorem excess_same {i m t : V4} (h : (addR i m).2 = 0) (h4 : firstB m (addR i m).1 t = 4) : overV (addR i m).1 t = overV i t := by
  obtain ⟨_, hm, hs, _⟩ := add_sum h
  obtain ⟨⟨a0, _⟩, ⟨b0, _⟩, ⟨c0, _⟩, ⟨d0, _⟩⟩ := (good_iff m).1 hm
  have k := first4_ok h4
  rw [hs] at k ⊢
  simp only at k
  have one : ∀ i m t : Int, 0 ≤ m → (m = 0 ∨ i + m ≤ t) → atLeast0 (i + m - t) = atLeast0 (i - t) := fun i m t h0 h => by
    unfold atLeast0; split <;> split <;> omega
  unfold overV
  simp only
  rw [one _ _ _ a0 (bad_no k.1), one _ _ _ b0 (bad_no k.2.1), one _ _ _ c0 (bad_no k.2.2.1), one _ _ _ d0 (bad_no k.2.2.2)]
theorem cap_mono {x y : Int} (h : x ≤ y) : capT x ≤ capT y := by unfold capT; split <;> split <;> omega
theorem cap_more {c n : Int} (hc : 0 ≤ c) : capT (c * n) ≤ capT (c * (n + 1)) := cap_mono (by rw [Int.mul_add]; omega)
theorem first_more {m s c : V4} {n : Int} (hc : goodV c = true) (h : firstB m s (topV c n) = 4) : firstB m s (topV c (n + 1)) = 4 := by
  obtain ⟨⟨a0, _⟩, ⟨b0, _⟩, ⟨c0, _⟩, ⟨d0, _⟩⟩ := (good_iff c).1 hc
  have k := first4_ok h
  unfold topV at k ⊢
  simp only at k ⊢
  have one : ∀ m s t t' : Int, t ≤ t' → badB m s t = false → badB m s t' = false := fun m s t t' h k => no_bad (by have := bad_no k; omega)
  exact first_of ⟨one _ _ _ _ (cap_more a0) k.1, one _ _ _ _ (cap_more b0) k.2.1, one _ _ _ _ (cap_more c0) k.2.2.1, one _ _ _ _ (cap_more d0) k.2.2.2⟩
/-- The three ends of May. -/
theorem may_cases {i m c : V4} {n : Int} (hi : goodV i = true) (hm : goodV m = true) (hc : goodV c = true) (hr : ratB n = true) :
    (mayR i m c n).1 = 3 + 1 ∨ ((addR i m).2 = 0 ∧ firstB m (addR i m).1 (topV c n) < 4 ∧ mayR i m c n = (9, firstB m (addR i m).1 (topV c n))) ∨ ((addR i m).2 = 0 ∧ firstB m (addR i m).1 (topV c n) = 4 ∧ mayR i m c n = (0, 0)) := by
  have h2 : (addR i m).2 = 0 ∨ (addR i m).2 = 4 := by rw [add_yes hi hm]; unfold checkR; split <;> simp
  unfold mayR
  rw [hc, hr]
  rcases h2 with h2 | h2
  · rw [h2]
    simp only [Bool.and_self, if_true]
    have := firstB_le m (addR i m).1 (topV c n)
    by_cases h : firstB m (addR i m).1 (topV c n) < 4
    · right; left; rw [if_pos h]; exact ⟨trivial, h, rfl⟩
    · right; right; rw [if_neg h]; exact ⟨trivial, by omega, rfl⟩
  · left; rw [h2]; rfl
theorem may_yes {i m c : V4} {n : Int} (hc : goodV c = true) (hr : ratB n = true) (h2 : (addR i m).2 = 0) (h4 : firstB m (addR i m).1 (topV c n) = 4) : mayR i m c n = (0, 0) := by
  unfold mayR; rw [hc, hr, h2, h4]; rfl
end Go.Proofs.YtmimlniofhngjaaDoor
