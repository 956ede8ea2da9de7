/- Ticks and windows in plain words: which window a tick has, where a window begins, how many ticks are left. No conditions. -/
import Derived.WalkKit
namespace Go.Proofs.YtlakabcbebahhaaDoor
open Go Go.RowKit

/-- May a number be a tick, or a window? -/
def numB (n : Int) : Bool := decide (0 ≤ n) && decide (n ≤ 1073741824)
/-- May a number be a length? -/
def lenB (n : Int) : Bool := decide (1 ≤ n) && decide (n ≤ 1000)
theorem numB_yes {n : Int} : numB n = true ↔ 0 ≤ n ∧ n ≤ 1073741824 := by simp [numB]
theorem lenB_yes {n : Int} : lenB n = true ↔ 1 ≤ n ∧ n ≤ 1000 := by simp [lenB]
/-- A call's answer: a number and the place of its error. -/
def winOf (t n : Int) : Int × Nat := if numB t && lenB n then (t / n, 0) else (0, 1)
def beginOf (v n : Int) : Int × Nat := if numB v && lenB n && numB (v * n) then (v * n, 0) else (0, 1)
def leftOf (t n : Int) : Int × Nat := if numB t && lenB n then (n - t % n, 0) else (0, 1)
def openOf (v now : Int) : Bool := numB v && numB now && decide (now ≤ v) && decide (v - now < 8)
/-- The windows from one on. -/
def upFrom (a : Int) : Nat → List Int
  | 0 => []
  | n + 1 => upFrom a n ++ [a + (n : Int)]
def rowOk (now n : Int) : Bool := numB now && decide (1 ≤ n) && decide (n ≤ 8) && numB (now + n - 1)
def rowOf (now n : Int) : List Int × Nat := if rowOk now n then (upFrom now n.toNat, 0) else ([], 1)

theorem upFrom_len (a : Int) : ∀ n, (upFrom a n).length = n
  | 0 => rfl
  | n + 1 => by simp [upFrom, upFrom_len a n]
theorem upFrom_at (a : Int) : ∀ (n i : Nat), i < n → (upFrom a n)[i]? = some (a + (i : Int))
  | 0, i, h => by omega
  | n + 1, i, h => by
    unfold upFrom
    by_cases e : i < n
    · rw [List.getElem?_append_left (by rw [upFrom_len]; exact e)]; exact upFrom_at a n i e
    · obtain rfl : i = n := by omega
      rw [List.getElem?_append_right (by rw [upFrom_len]; exact Nat.le_refl _), upFrom_len]; simp

theorem numB_no {n : Int} : numB n = false ↔ n < 0 ∨ 1073741824 < n := by simp [numB]; omega
theorem lenB_no {n : Int} : lenB n = false ↔ n < 1 ∨ 1000 < n := by simp [lenB]; omega
theorem win_yes {t n : Int} (h : numB t = true) (k : lenB n = true) : winOf t n = (t / n, 0) := by simp [winOf, h, k]
theorem left_yes {t n : Int} (h : numB t = true) (k : lenB n = true) : leftOf t n = (n - t % n, 0) := by simp [leftOf, h, k]
/-- A quotient of two that a call may have. -/
theorem div_in {t n : Int} (h : numB t = true) (k : lenB n = true) : t.tdiv n = t / n ∧ 0 ≤ t / n ∧ t / n ≤ 1073741824 ∧ wrap64 (t.tdiv n) = t / n := by
  have h := numB_yes.1 h
  have k := lenB_yes.1 k
  have e : t.tdiv n = t / n := Int.tdiv_eq_ediv_of_nonneg h.1
  have a : 0 ≤ t / n := Int.ediv_nonneg h.1 (by omega)
  have b : t / n ≤ t := Int.ediv_le_self _ h.1
  have c : t / n ≤ 1073741824 := by omega
  refine ⟨e, a, c, ?_⟩
  rw [e]
  generalize t / n = z at a c
  unfold wrap64; omega
theorem mod_in {t n : Int} (h : numB t = true) (k : lenB n = true) : t.tmod n = t % n ∧ 0 ≤ t % n ∧ t % n < n ∧ wrap64 (t.tmod n) = t % n ∧ wrap64 (n - t % n) = n - t % n := by
  have h := numB_yes.1 h
  have k := lenB_yes.1 k
  have e : t.tmod n = t % n := Int.tmod_eq_emod_of_nonneg h.1
  have a : 0 ≤ t % n := Int.emod_nonneg t (by omega)
  have b : t % n < n := Int.emod_lt_of_pos t (by omega)
  rw [e]
  generalize t % n = z at a b
  exact ⟨rfl, a, b, by unfold wrap64; omega, by unfold wrap64; omega⟩
/-- A window that begins too late, by a quotient. -/
theorem late_iff {v n : Int} (h : numB v = true) (k : lenB n = true) : (1073741824 / n < v ↔ 1073741824 < v * n) ∧ 0 ≤ v * n ∧ v * n ≤ 1073741824000 := by
  have h := numB_yes.1 h
  have k := lenB_yes.1 k
  refine ⟨Int.ediv_lt_iff_lt_mul (by omega), Int.mul_nonneg h.1 (by omega), ?_⟩
  have h1 := Int.mul_le_mul h.2 k.2 (by omega) (by omega)
  omega
end Go.Proofs.YtlakabcbebahhaaDoor
