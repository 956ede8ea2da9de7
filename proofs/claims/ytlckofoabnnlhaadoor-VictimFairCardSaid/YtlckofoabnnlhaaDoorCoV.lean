/- Vectors resource by resource: sums, differences, what is valid, what fits. No conditions. -/
import Derived.Test.YtlckofoabnnlhaaDoorVecM
namespace Go.Proofs.YtlckofoabnnlhaaDoor
open Go

/-- The amount of one resource. -/
def comp (r : Nat) (x : V4) : Int := match r with | 0 => x.a | 1 => x.b | 2 => x.c | _ => x.d
def z4 : V4 := ⟨0, 0, 0, 0⟩
def pv (x y : V4) : V4 := ⟨x.a + y.a, x.b + y.b, x.c + y.c, x.d + y.d⟩
def mv (x y : V4) : V4 := ⟨x.a - y.a, x.b - y.b, x.c - y.c, x.d - y.d⟩
theorem comp_pv (r : Nat) (x y : V4) : comp r (pv x y) = comp r x + comp r y := by rcases r with _ | _ | _ | r <;> rfl
theorem comp_mv (r : Nat) (x y : V4) : comp r (mv x y) = comp r x - comp r y := by rcases r with _ | _ | _ | r <;> rfl
theorem comp_z4 (r : Nat) : comp r z4 = 0 := by rcases r with _ | _ | _ | r <;> rfl
theorem comp_ext {x y : V4} (h : ∀ r, comp r x = comp r y) : x = y := V4.eq (h 0) (h 1) (h 2) (h 3)
theorem good_comp {x : V4} : goodV x = true ↔ ∀ r, 0 ≤ comp r x ∧ comp r x ≤ 1099511627776 := by
  rw [good_iff]
  constructor
  · rintro ⟨h0, h1, h2, h3⟩ r
    rcases r with _ | _ | _ | r
    · exact h0
    · exact h1
    · exact h2
    · exact h3
  · intro h; exact ⟨h 0, h 1, h 2, h 3⟩
theorem fits_comp {x y : V4} : fitsV x y = true ↔ ∀ r, comp r x ≤ comp r y := by
  unfold fitsV
  simp only [Bool.and_eq_true, decide_eq_true_eq]
  constructor
  · rintro ⟨⟨⟨h0, h1⟩, h2⟩, h3⟩ r
    rcases r with _ | _ | _ | r
    · exact h0
    · exact h1
    · exact h2
    · exact h3
  · intro h; exact ⟨⟨⟨h 0, h 1⟩, h 2⟩, h 3⟩

end Go.Proofs.YtlckofoabnnlhaaDoor
