/- Ceilings in plain words: the least of a product and the greatest amount, what is above, what may be given out. No conditions. -/
import Derived.Test.YtmimlniofhngjaaDoorVecM
namespace Go.Proofs.YtmimlniofhngjaaDoor
/-- At most the greatest amount. -/
def capT (x : Int) : Int := if 1099511627776 < x then 1099511627776 else x
/-- At least none. -/
def atLeast0 (x : Int) : Int := if 0 > x then 0 else x
def ratB (n : Int) : Bool := decide (1 ≤ n ∧ n ≤ 16)
def topV (c : V4) (n : Int) : V4 := ⟨capT (c.a * n), capT (c.b * n), capT (c.c * n), capT (c.d * n)⟩
def topR (c : V4) (n : Int) : V4 × Nat := if goodV c && ratB n then (topV c n, 0) else (⟨0, 0, 0, 0⟩, 1)
/-- By how much each amount is greater. -/
def overV (x y : V4) : V4 := ⟨atLeast0 (x.a - y.a), atLeast0 (x.b - y.b), atLeast0 (x.c - y.c), atLeast0 (x.d - y.d)⟩
def besideR (i c : V4) (n : Int) : V4 × Nat := if goodV i then topR c n else (⟨0, 0, 0, 0⟩, 1)
def excR (i c : V4) (n : Int) : V4 × Nat := if goodV i && (goodV c && ratB n) then (overV i (topV c n), 0) else (⟨0, 0, 0, 0⟩, 1)
def roomR (i c : V4) (n : Int) : V4 × Nat := if goodV i && (goodV c && ratB n) then (overV (topV c n) i, 0) else (⟨0, 0, 0, 0⟩, 1)
/-- Is it too much of a resource? -/
def badB (m s t : Int) : Bool := (m != 0) && decide (s > t)
/-- The first resource of which it is too much; 4: none. -/
def firstB (m s t : V4) : Nat := if badB m.a s.a t.a then 0 else if badB m.b s.b t.b then 1 else if badB m.c s.c t.c then 2 else if badB m.d s.d t.d then 3 else 4
/-- What may be given out: the error, and the resource. -/
def mayR (i m c : V4) (n : Int) : Nat × Nat :=
  if goodV c && ratB n then
    (if (addR i m).2 = 0 then (if firstB m (addR i m).1 (topV c n) < 4 then (9, firstB m (addR i m).1 (topV c n)) else (0, 0)) else ((addR i m).2, 0))
  else (1, 0)

theorem ratB_iff {n : Int} : ratB n = true ↔ 1 ≤ n ∧ n ≤ 16 := by simp [ratB]
theorem ratB_not {n : Int} : ratB n = false ↔ (n < 1 ∨ 16 < n) := by simp [ratB]; omega
theorem capT_bd {x : Int} (h : 0 ≤ x) : 0 ≤ capT x ∧ capT x ≤ 1099511627776 := by unfold capT; split <;> omega
theorem topV_good {c : V4} {n : Int} (hc : goodV c = true) (hn : ratB n = true) : goodV (topV c n) = true := by
  have g := (good_iff c).1 hc
  have k := ratB_iff.1 hn
  exact (good_iff _).2 ⟨capT_bd (mul_bd g.1 (by omega)).1, capT_bd (mul_bd g.2.1 (by omega)).1, capT_bd (mul_bd g.2.2.1 (by omega)).1, capT_bd (mul_bd g.2.2.2 (by omega)).1⟩
theorem top_le (c : V4) (n : Int) : (topR c n).2 ≤ 14 := by unfold topR; split <;> simp
theorem exc_le (i c : V4) (n : Int) : (excR i c n).2 ≤ 14 := by unfold excR; split <;> simp
theorem room_le (i c : V4) (n : Int) : (roomR i c n).2 ≤ 14 := by unfold roomR; split <;> simp
theorem firstB_le (m s t : V4) : firstB m s t ≤ 4 := by unfold firstB; (repeat' split) <;> omega
end Go.Proofs.YtmimlniofhngjaaDoor
