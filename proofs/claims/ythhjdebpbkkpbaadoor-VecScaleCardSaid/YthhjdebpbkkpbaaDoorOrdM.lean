/- The arithmetic behind the laws VecOrder and VecScale in plain words: sums of three in two orders; a sum of equal vectors. No conditions. -/
import Derived.Test.YthhjdebpbkkpbaaDoorVecM
namespace Go.Proofs.YthhjdebpbkkpbaaDoor

def vadd (x y : V4) : V4 := ⟨x.a + y.a, x.b + y.b, x.c + y.c, x.d + y.d⟩
/-- The sum of a list from a total on, in plain words: the sum, the error's number, the place. -/
def sumP : List V4 → V4 → Nat → V4 × Nat × Nat
  | [], t, _ => (t, 0, 0)
  | z :: r, t, i => if (addR t z).2 = 0 then sumP r (addR t z).1 (i + 1) else (⟨0, 0, 0, 0⟩, (addR t z).2, i)

theorem addv {x y : V4} (hx : goodV x = true) (hy : goodV y = true) (hz : goodV (vadd x y) = true) : addR x y = (vadd x y, 0) := by
  rw [add_yes hx hy]; exact if_pos hz
theorem addv_no {x y : V4} (hx : goodV x = true) (hy : goodV y = true) (hz : goodV (vadd x y) = false) : addR x y = (⟨0, 0, 0, 0⟩, 4) := by
  have hz' : goodV ⟨x.a + y.a, x.b + y.b, x.c + y.c, x.d + y.d⟩ = false := hz
  simp [add_yes hx hy, checkR, hz']
theorem vadd0 (a : V4) : vadd ⟨0, 0, 0, 0⟩ a = a := by
  cases a; simp [vadd]
theorem good0 : goodV ⟨0, 0, 0, 0⟩ = true := by decide
theorem add0 {a : V4} (h : goodV a = true) : addR ⟨0, 0, 0, 0⟩ a = (a, 0) := by
  rw [addv good0 h (by rw [vadd0]; exact h), vadd0]
theorem good_left {x y : V4} (hx : goodV x = true) (hy : goodV y = true) (h : goodV (vadd x y) = true) (z : V4) (hz : goodV z = true) (ht : goodV (vadd (vadd x y) z) = true) : goodV (vadd x z) = true := by
  rw [good_iff] at *
  simp only [vadd] at *
  omega
theorem good_part {x y z : V4} (hx : goodV x = true) (hy : goodV y = true) (hz : goodV z = true) (ht : goodV (vadd (vadd x y) z) = true) : goodV (vadd x y) = true := by
  rw [good_iff] at *
  simp only [vadd] at *
  omega
theorem vadd_turn (a b c : V4) : vadd (vadd c a) b = vadd (vadd a b) c := by
  simp only [vadd, V4.mk.injEq]
  omega
def all3 (a b c : V4) : Prop := goodV a = true ∧ goodV b = true ∧ goodV c = true ∧ goodV (vadd (vadd a b) c) = true
theorem sum3 (a b c : V4) : (all3 a b c ∧ sumP [a, b, c] ⟨0, 0, 0, 0⟩ 0 = (vadd (vadd a b) c, 0, 0)) ∨ (¬ all3 a b c ∧ ∃ K p, 0 < K ∧ sumP [a, b, c] ⟨0, 0, 0, 0⟩ 0 = (⟨0, 0, 0, 0⟩, K, p)) := by
  cases ha : goodV a
  · exact .inr ⟨fun h => (by have := h.1; rw [ha] at this; cases this), 1, 0, by omega, by simp [sumP, add_no2 ha]⟩
  cases hb : goodV b
  · exact .inr ⟨fun h => (by have := h.2.1; rw [hb] at this; cases this), 1, 1, by omega, by simp [sumP, add0 ha, add_no2 hb]⟩
  cases hab : goodV (vadd a b)
  · refine .inr ⟨fun h => ?_, 4, 1, by omega, by simp [sumP, add0 ha, addv_no ha hb hab]⟩
    have := good_part h.1 h.2.1 h.2.2.1 h.2.2.2
    rw [hab] at this; cases this
  cases hc : goodV c
  · exact .inr ⟨fun h => (by have := h.2.2.1; rw [hc] at this; cases this), 1, 2, by omega, by simp [sumP, add0 ha, addv ha hb hab, add_no2 hc]⟩
  cases ht : goodV (vadd (vadd a b) c)
  · exact .inr ⟨fun h => (by have := h.2.2.2; rw [ht] at this; cases this), 4, 2, by omega, by simp [sumP, add0 ha, addv ha hb hab, addv_no hab hc ht]⟩
  · exact .inl ⟨⟨ha, hb, hc, ht⟩, by simp [sumP, add0 ha, addv ha hb hab, addv hab hc ht]⟩
theorem all3_turn {a b c : V4} : all3 c a b ↔ all3 a b c := by
  unfold all3
  rw [vadd_turn]
  constructor <;> rintro ⟨h1, h2, h3, h4⟩ <;> exact ⟨by assumption, by assumption, by assumption, h4⟩
theorem sub_back {a b c : V4} (h : all3 a b c) : subR (vadd (vadd a b) c) c = (vadd a b, 0) := by
  obtain ⟨ha, hb, hc, ht⟩ := h
  have hab := good_part ha hb hc ht
  have e : (⟨(vadd (vadd a b) c).a - c.a, (vadd (vadd a b) c).b - c.b, (vadd (vadd a b) c).c - c.c, (vadd (vadd a b) c).d - c.d⟩ : V4) = vadd a b := by
    simp only [vadd, V4.mk.injEq]; omega
  rw [sub_yes ht hc, e]
  exact if_pos hab
theorem fits_more {a b c : V4} (h : all3 a b c) (hf : fitsV c a = true) : fitsV c (vadd a b) = true := by
  obtain ⟨ha, hb, hc, ht⟩ := h
  rw [good_iff] at hb
  simp only [fitsV, vadd, Bool.and_eq_true, decide_eq_true_eq] at *
  refine ⟨⟨⟨?_, ?_⟩, ?_⟩, ?_⟩ <;> exact decide_eq_true (by omega)
theorem less_iff (a b : V4) : lessV a b = true ↔ (a.a < b.a ∨ (a.a = b.a ∧ (a.b < b.b ∨ (a.b = b.b ∧ (a.c < b.c ∨ (a.c = b.c ∧ a.d < b.d)))))) := by
  unfold lessV
  by_cases h0 : a.a = b.a
  · by_cases h1 : a.b = b.b
    · by_cases h2 : a.c = b.c
      · simp [h0, h1, h2]
      · simp [h0, h1, h2]
    · simp [h0, h1]
  · simp [h0]
theorem less_not {a b : V4} (h : lessV a b = true) : lessV b a = false := by
  have h1 := (less_iff a b).1 h
  cases h2 : lessV b a
  · rfl
  · have := (less_iff b a).1 h2
    omega
theorem less_or (a b : V4) : (lessV a b || lessV b a) = !(a.a == b.a && (a.b == b.b && (a.c == b.c && a.d == b.d))) := by
  have h1 := less_iff a b
  have h2 := less_iff b a
  by_cases h : a.a = b.a ∧ a.b = b.b ∧ a.c = b.c ∧ a.d = b.d
  · obtain ⟨e0, e1, e2, e3⟩ := h
    have k1 : lessV a b = false := by rw [← Bool.not_eq_true, h1]; omega
    have k2 : lessV b a = false := by rw [← Bool.not_eq_true, h2]; omega
    simp [k1, k2, e0, e1, e2, e3]
  · have k : lessV a b = true ∨ lessV b a = true := by rw [h1, h2]; omega
    have k' : (a.a == b.a && (a.b == b.b && (a.c == b.c && a.d == b.d))) = false := by
      rw [← Bool.not_eq_true]
      simpa using h
    rw [k']
    rcases k with k | k <;> simp [k]
/-- so many equal vectors, added one after another -/
def times (v : V4) (n : Int) : V4 := ⟨v.a * n, v.b * n, v.c * n, v.d * n⟩
theorem times_succ (v : V4) (j : Nat) : vadd (times v j) v = times v (j + 1 : Nat) := by
  simp only [vadd, times, Int.natCast_add, Int.mul_add, V4.mk.injEq]
  simp
theorem times0 (v : V4) : times v (0 : Nat) = ⟨0, 0, 0, 0⟩ := by simp [times]
theorem mul_le' {x : Int} {i j : Nat} (hx : 0 ≤ x) (h : i ≤ j) : 0 ≤ x * (i : Int) ∧ x * (i : Int) ≤ x * (j : Int) :=
  ⟨Int.mul_nonneg hx (by omega), Int.mul_le_mul_of_nonneg_left (by omega) hx⟩
theorem times_good {v : V4} (hv : goodV v = true) {i j : Nat} (h : i ≤ j) (hj : goodV (times v j) = true) : goodV (times v i) = true := by
  rw [good_iff] at *
  simp only [times] at *
  have h0 := mul_le' hv.1.1 h
  have h1 := mul_le' hv.2.1.1 h
  have h2 := mul_le' hv.2.2.1.1 h
  have h3 := mul_le' hv.2.2.2.1 h
  omega
theorem rep_ok {v : V4} (hv : goodV v = true) (k : Nat) (hk : goodV (times v k) = true) : ∀ (m j : Nat), j + m = k → sumP (List.replicate m v) (times v j) j = (times v k, 0, 0)
  | 0, j, h => by
    obtain rfl : j = k := by omega
    rfl
  | m + 1, j, h => by
    have h1 := times_good hv (show j ≤ k by omega) hk
    have h2 := times_good hv (show j + 1 ≤ k by omega) hk
    have ha : addR (times v j) v = (times v (j + 1 : Nat), 0) := by rw [addv h1 hv (by rw [times_succ]; exact h2), times_succ]
    rw [List.replicate_succ]
    simp only [sumP, ha, if_pos]
    exact rep_ok hv k hk m (j + 1) (by omega)
theorem rep_no {v : V4} (hv : goodV v = true) (k : Nat) (hk : goodV (times v k) = false) : ∀ (m j : Nat), j + m = k → goodV (times v j) = true → ∃ p, sumP (List.replicate m v) (times v j) j = (⟨0, 0, 0, 0⟩, 4, p)
  | 0, j, h, hj => by
    obtain rfl : j = k := by omega
    rw [hk] at hj; cases hj
  | m + 1, j, h, hj => by
    cases h2 : goodV (times v (j + 1 : Nat))
    · have ha : addR (times v j) v = (⟨0, 0, 0, 0⟩, 4) := addv_no hj hv (by rw [times_succ]; exact h2)
      exact ⟨j, by rw [List.replicate_succ]; simp [sumP, ha]⟩
    · have ha : addR (times v j) v = (times v (j + 1 : Nat), 0) := by rw [addv hj hv (by rw [times_succ]; exact h2), times_succ]
      obtain ⟨p, hp⟩ := rep_no hv k hk m (j + 1) (by omega) h2
      refine ⟨p, ?_⟩
      rw [List.replicate_succ]
      simp only [sumP, ha, if_pos]
      exact hp
theorem fits_times {v : V4} (hv : goodV v = true) {k : Nat} (hk : 0 < k) : fitsV v (times v k) = true := by
  rw [good_iff] at hv
  have h0 := mul_le' hv.1.1 hk
  have h1 := mul_le' hv.2.1.1 hk
  have h2 := mul_le' hv.2.2.1.1 hk
  have h3 := mul_le' hv.2.2.2.1 hk
  simp only [fitsV, times, Bool.and_eq_true, decide_eq_true_eq]
  refine ⟨⟨⟨?_, ?_⟩, ?_⟩, ?_⟩ <;> exact decide_eq_true (by omega)
end Go.Proofs.YthhjdebpbkkpbaaDoor
