/- The remainder of an unsigned number, told as a number. No conditions. -/
import Derived.WalkKit
namespace Go.Proofs.YtbfbhlpibclccaaDoor
open Go Go.RowKit
theorem mod_pos (i : Int) (k : Nat) (h0 : 0 < k) (h1 : k ≤ 1000000) : ∃ m : Nat, m < k ∧ wrap64 ((IntKind.u64.wrap i).tmod (k : Int)) = (m : Int) := by
  have hu : 0 ≤ IntKind.u64.wrap i := by rw [IntKind.wrap_u64]; omega
  have hk : (0 : Int) < (k : Int) := by omega
  have e : (IntKind.u64.wrap i).tmod (k : Int) = IntKind.u64.wrap i % (k : Int) := Int.tmod_eq_emod_of_nonneg hu
  have hlo := Int.emod_nonneg (IntKind.u64.wrap i) (Int.ne_of_gt hk)
  have hhi := Int.emod_lt_of_pos (IntKind.u64.wrap i) hk
  refine ⟨(IntKind.u64.wrap i % (k : Int)).toNat, by omega, ?_⟩
  rw [e]
  have hw : wrap64 (IntKind.u64.wrap i % (k : Int)) = IntKind.u64.wrap i % (k : Int) := by
    generalize IntKind.u64.wrap i % (k : Int) = z at hlo hhi
    unfold wrap64; omega
  rw [hw]; omega
theorem u64_nat (n : Nat) (h : n ≤ 1000000) : IntKind.u64.wrap (n : Int) = (n : Int) := by rw [IntKind.wrap_u64]; omega
end Go.Proofs.YtbfbhlpibclccaaDoor
