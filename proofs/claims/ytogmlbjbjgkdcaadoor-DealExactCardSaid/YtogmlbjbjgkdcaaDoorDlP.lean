/- Matching in plain words (stage 14): what comes in two parts takes what it would take at once. No conditions. -/
import Derived.Test.YtogmlbjbjgkdcaaDoorDlN
namespace Go.Proofs.YtogmlbjbjgkdcaaDoor

/-- What fills cost. -/
def worthF (L : List Fl) : Int := (L.map fun f => f.price * f.lots).sum
theorem worthF_nil : worthF [] = 0 := rfl
theorem worthF_cons (f : Fl) (L : List Fl) : worthF (f :: L) = f.price * f.lots + worthF L := by unfold worthF; rw [List.map_cons, List.sum_cons]
theorem worthF_app (L M : List Fl) : worthF (L ++ M) = worthF L + worthF M := by unfold worthF; rw [List.map_append, List.sum_append]
theorem fill_worth (o x : Od) (n : Int) : (fillO o x n).price * (fillO o x n).lots = x.price * n := by unfold fillO; split <;> rfl
theorem take_zero (o : Od) (S : List Od) : takeL o S 0 = [] := by cases S <;> simp [takeL]
theorem rest_zero (o : Od) (S : List Od) : restL o S 0 = S := by cases S <;> simp [restL]
theorem left_zero (o : Od) (S : List Od) : leftL o S 0 = 0 := by cases S <;> simp [leftL]
/-- Two parts. -/
theorem two_parts (o : Od) : ∀ (S : List Od) (k j : Nat), (∀ x ∈ S, 1 ≤ x.lots) →
    restL o S (k + j) = restL o (restL o S k) j ∧ leftL o S (k + j) = leftL o S k + leftL o (restL o S k) j ∧ worthF (takeL o S (k + j)) = worthF (takeL o S k) + worthF (takeL o (restL o S k) j)
  | [], k, j, _ => by simp [restL, leftL, takeL, worthF]
  | x :: S, k, j, h => by
    by_cases hk : k = 0
    · subst hk
      rw [rest_zero, left_zero, take_zero, worthF_nil, Nat.zero_add]
      exact ⟨rfl, by omega, by omega⟩
    · by_cases hj : j = 0
      · subst hj
        rw [rest_zero, left_zero, take_zero, worthF_nil, Nat.add_zero]
        exact ⟨rfl, by omega, by omega⟩
      · have hx := h x (List.mem_cons_self ..)
        have hS : ∀ z ∈ S, 1 ≤ z.lots := fun z hz => h z (List.mem_cons_of_mem _ hz)
        by_cases hm : meetO o x = true
        · by_cases hlt : k < x.lots.toNat
          · have er : restL o (x :: S) k = { x with lots := x.lots - (k : Int) } :: S := by rw [restL, if_neg hk, if_pos hm, if_pos hlt]
            have el : leftL o (x :: S) k = 0 := by rw [leftL, if_neg hk, if_pos hm, show k - min k x.lots.toNat = 0 by omega, left_zero]
            have et : worthF (takeL o (x :: S) k) = x.price * (k : Int) := by rw [takeL, if_neg hk, if_pos hm, worthF_cons, fill_worth, show k - min k x.lots.toNat = 0 by omega, take_zero, worthF_nil, show min k x.lots.toNat = k by omega]; omega
            rw [er, el, et]
            have hm2 : meetO o { x with lots := x.lots - (k : Int) } = true := hm
            rw [restL, leftL, takeL, restL, leftL, takeL, if_neg (show ¬ k + j = 0 by omega), if_neg (show ¬ k + j = 0 by omega), if_neg (show ¬ k + j = 0 by omega), if_neg hj, if_neg hj, if_neg hj, if_pos hm, if_pos hm, if_pos hm, if_pos hm2, if_pos hm2, if_pos hm2]
            rw [worthF_cons, worthF_cons, fill_worth, fill_worth]
            simp only
            by_cases h2 : k + j < x.lots.toNat
            · rw [if_pos h2, if_pos (show j < (x.lots - (k : Int)).toNat by omega)]
              have e1 : min (k + j) x.lots.toNat = k + j := by omega
              have e2 : min j (x.lots - (k : Int)).toNat = j := by omega
              rw [e1, e2, Nat.sub_self, Nat.sub_self, left_zero, take_zero, worthF_nil]
              refine ⟨by rw [show x.lots - ((k + j : Nat) : Int) = x.lots - (k : Int) - (j : Int) by omega], rfl, ?_⟩
              have : x.price * ((k + j : Nat) : Int) = x.price * (k : Int) + x.price * (j : Int) := by rw [← Int.mul_add]; congr 1
              omega
            · rw [if_neg h2, if_neg (show ¬ j < (x.lots - (k : Int)).toNat by omega)]
              have e1 : min (k + j) x.lots.toNat = x.lots.toNat := by omega
              have e2 : min j (x.lots - (k : Int)).toNat = x.lots.toNat - k := by omega
              have e3 : (x.lots - (k : Int)).toNat = x.lots.toNat - k := by omega
              rw [e1, e2, e3, show k + j - x.lots.toNat = j - (x.lots.toNat - k) by omega]
              refine ⟨rfl, by omega, ?_⟩
              have : x.price * ((x.lots.toNat : Nat) : Int) = x.price * (k : Int) + x.price * ((x.lots.toNat - k : Nat) : Int) := by rw [← Int.mul_add]; congr 1; omega
              omega
          · have er : restL o (x :: S) k = restL o S (k - x.lots.toNat) := by rw [restL, if_neg hk, if_pos hm, if_neg hlt]
            have e0 : min k x.lots.toNat = x.lots.toNat := by omega
            have e1 : min (k + j) x.lots.toNat = x.lots.toNat := by omega
            obtain ⟨r1, r2, r3⟩ := two_parts o S (k - x.lots.toNat) j hS
            rw [er]
            rw [restL, leftL, takeL, leftL, takeL, if_neg (show ¬ k + j = 0 by omega), if_neg (show ¬ k + j = 0 by omega), if_neg (show ¬ k + j = 0 by omega), if_neg hk, if_neg hk, if_pos hm, if_pos hm, if_pos hm, if_pos hm, if_pos hm, if_neg (show ¬ k + j < x.lots.toNat by omega), e0, e1, worthF_cons, worthF_cons,
              show k + j - x.lots.toNat = k - x.lots.toNat + j by omega, r1, r2, r3]
            exact ⟨rfl, rfl, by omega⟩
        · have er : restL o (x :: S) k = x :: S := by rw [restL, if_neg hk, if_neg hm]
          rw [er]
          rw [restL, leftL, takeL, restL, leftL, takeL, leftL, takeL, if_neg (show ¬ k + j = 0 by omega), if_neg (show ¬ k + j = 0 by omega), if_neg (show ¬ k + j = 0 by omega), if_neg hj, if_neg hj, if_neg hj, if_neg hk, if_neg hk, if_neg hm, if_neg hm, if_neg hm, if_neg hm, if_neg hm, if_neg hm, if_neg hm, if_neg hm]
          exact ⟨rfl, rfl, by rw [worthF_nil]; omega⟩
end Go.Proofs.YtogmlbjbjgkdcaaDoor
