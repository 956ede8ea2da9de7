/- The arithmetic of vectors in plain words: four amounts, valid from 0 to 2^40. No conditions. -/
import Derived.WalkKit
namespace Go.Proofs.YtlckofoabnnlhaaDoor
structure V4 where
  a : Int
  b : Int
  c : Int
  d : Int
theorem V4.eq {x y : V4} (ha : x.a = y.a) (hb : x.b = y.b) (hc : x.c = y.c) (hd : x.d = y.d) : x = y := by cases x; cases y; simp only at ha hb hc hd; rw [ha, hb, hc, hd]
instance : DecidableEq V4 := fun x y =>
  if h : x.a = y.a ∧ x.b = y.b ∧ x.c = y.c ∧ x.d = y.d then isTrue (V4.eq h.1 h.2.1 h.2.2.1 h.2.2.2) else isFalse fun e => h (by rw [e]; exact ⟨rfl, rfl, rfl, rfl⟩)
instance : Inhabited V4 := ⟨⟨0, 0, 0, 0⟩⟩
def okB (a : Int) : Bool := decide (0 ≤ a ∧ a ≤ 1099511627776)
def goodV (x : V4) : Bool := okB x.a && okB x.b && okB x.c && okB x.d
def addR (x y : V4) : V4 × Nat :=
  if goodV x && goodV y then (if goodV ⟨x.a + y.a, x.b + y.b, x.c + y.c, x.d + y.d⟩ then (⟨x.a + y.a, x.b + y.b, x.c + y.c, x.d + y.d⟩, 0) else (⟨0, 0, 0, 0⟩, 4)) else (⟨0, 0, 0, 0⟩, 1)
def subR (x y : V4) : V4 × Nat :=
  if goodV x && goodV y then (if goodV ⟨x.a - y.a, x.b - y.b, x.c - y.c, x.d - y.d⟩ then (⟨x.a - y.a, x.b - y.b, x.c - y.c, x.d - y.d⟩, 0) else (⟨0, 0, 0, 0⟩, 4)) else (⟨0, 0, 0, 0⟩, 1)
def numB (n : Int) : Bool := decide (0 ≤ n ∧ n ≤ 16)
def scaleR (x : V4) (n : Int) : V4 × Nat :=
  if goodV x && numB n then (if goodV ⟨x.a * n, x.b * n, x.c * n, x.d * n⟩ then (⟨x.a * n, x.b * n, x.c * n, x.d * n⟩, 0) else (⟨0, 0, 0, 0⟩, 4)) else (⟨0, 0, 0, 0⟩, 1)
def checkR (z : V4) : V4 × Nat := if goodV z then (z, 0) else (⟨0, 0, 0, 0⟩, 4)
def fitsV (x y : V4) : Bool := decide (x.a ≤ y.a) && decide (x.b ≤ y.b) && decide (x.c ≤ y.c) && decide (x.d ≤ y.d)
def lessV (x y : V4) : Bool :=
  if x.a ≠ y.a then decide (x.a < y.a) else if x.b ≠ y.b then decide (x.b < y.b) else if x.c ≠ y.c then decide (x.c < y.c) else decide (x.d < y.d)
def noneV (x : V4) : Bool := decide (x.a = 0 ∧ x.b = 0 ∧ x.c = 0 ∧ x.d = 0)

theorem good_iff (x : V4) : goodV x = true ↔ (0 ≤ x.a ∧ x.a ≤ 1099511627776) ∧ (0 ≤ x.b ∧ x.b ≤ 1099511627776) ∧ (0 ≤ x.c ∧ x.c ≤ 1099511627776) ∧ (0 ≤ x.d ∧ x.d ≤ 1099511627776) := by
  simp [goodV, okB, and_assoc]
theorem check_le (z : V4) : (checkR z).2 ≤ 14 := by unfold checkR; split <;> simp
theorem add_le (x y : V4) : (addR x y).2 ≤ 14 := by unfold addR; (repeat' split) <;> simp
theorem sub_le (x y : V4) : (subR x y).2 ≤ 14 := by unfold subR; (repeat' split) <;> simp
theorem scale_le (x : V4) (n : Int) : (scaleR x n).2 ≤ 14 := by unfold scaleR; (repeat' split) <;> simp
theorem add_yes {x y : V4} (hx : goodV x = true) (hy : goodV y = true) : addR x y = checkR ⟨x.a + y.a, x.b + y.b, x.c + y.c, x.d + y.d⟩ := by simp [addR, checkR, hx, hy]
theorem add_no1 {x y : V4} (hx : goodV x = false) : addR x y = (⟨0, 0, 0, 0⟩, 1) := by simp [addR, hx]
theorem add_no2 {x y : V4} (hy : goodV y = false) : addR x y = (⟨0, 0, 0, 0⟩, 1) := by simp [addR, hy]
theorem sub_yes {x y : V4} (hx : goodV x = true) (hy : goodV y = true) : subR x y = checkR ⟨x.a - y.a, x.b - y.b, x.c - y.c, x.d - y.d⟩ := by simp [subR, checkR, hx, hy]
theorem sub_no1 {x y : V4} (hx : goodV x = false) : subR x y = (⟨0, 0, 0, 0⟩, 1) := by simp [subR, hx]
theorem sub_no2 {x y : V4} (hy : goodV y = false) : subR x y = (⟨0, 0, 0, 0⟩, 1) := by simp [subR, hy]
theorem scale_yes {x : V4} {n : Int} (hx : goodV x = true) (hn : 0 ≤ n ∧ n ≤ 16) : scaleR x n = checkR ⟨x.a * n, x.b * n, x.c * n, x.d * n⟩ := by simp [scaleR, checkR, numB, hx, hn]
theorem scale_no1 {x : V4} {n : Int} (hx : goodV x = false) : scaleR x n = (⟨0, 0, 0, 0⟩, 1) := by simp [scaleR, hx]
theorem scale_no2 {x : V4} {n : Int} (hn : ¬ (0 ≤ n ∧ n ≤ 16)) : scaleR x n = (⟨0, 0, 0, 0⟩, 1) := by simp only [scaleR, numB, decide_eq_false hn]; simp
/-- A product that stays in the machine's range. -/
theorem mul_bd {a n : Int} (h : 0 ≤ a ∧ a ≤ 1099511627776) (hn : 0 ≤ n ∧ n ≤ 16) : 0 ≤ a * n ∧ a * n ≤ 17592186044416 := by
  have h1 := Int.mul_nonneg h.1 hn.1
  have h2 := Int.mul_le_mul h.2 hn.2 hn.1 (by omega)
  omega
end Go.Proofs.YtlckofoabnnlhaaDoor
