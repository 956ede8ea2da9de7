/- The contract of the law package's own function that tells which error it is. Condition: the fourteen sentinels lie where the program's text lays them. -/
import Derived.Test.YtcihghkiidkcnaaDoorErrs
import Derived.LoopTactic
import Derived.Lib.Hide
namespace Go.Proofs.YtcihghkiidkcnaaDoor
open Go Go.RowKit Go.Extern.Stop Go.Stop Go.Extern

/-- The row of the fourteen sentinels. -/
def sentRow (s : Nat → Addr) : Array Value := #[.iface 90 (.pointer (some (s 0))), .iface 90 (.pointer (some (s 1))), .iface 90 (.pointer (some (s 2))), .iface 90 (.pointer (some (s 3))), .iface 90 (.pointer (some (s 4))), .iface 90 (.pointer (some (s 5))), .iface 90 (.pointer (some (s 6))), .iface 90 (.pointer (some (s 7))), .iface 90 (.pointer (some (s 8))), .iface 90 (.pointer (some (s 9))), .iface 90 (.pointer (some (s 10))), .iface 90 (.pointer (some (s 11))), .iface 90 (.pointer (some (s 12))), .iface 90 (.pointer (some (s 13)))]


theorem sentRow_at (s : Nat → Addr) (j : Nat) (hj : j < 14) : (sentRow s)[j]? = some (.iface 90 (.pointer (some (s j)))) := by
  match j, hj with
  | 0, _ => rfl
  | 1, _ => rfl
  | 2, _ => rfl
  | 3, _ => rfl
  | 4, _ => rfl
  | 5, _ => rfl
  | 6, _ => rfl
  | 7, _ => rfl
  | 8, _ => rfl
  | 9, _ => rfl
  | 10, _ => rfl
  | 11, _ => rfl
  | 12, _ => rfl
  | 13, _ => rfl

/-- What a round of the search begins with: the counter at most k, the row in its block. -/
def KRel (s : Nat → Addr) (w : World) (k : Nat) (i : Value) (wr : World) : Prop :=
  ∃ j : Nat, j ≤ k ∧ i = .int .i64 j ∧ Sent s wr ∧ Below w.heap.size w wr ∧ (∀ n, n < 14 → wr.cell? ⟨w.heap.size, n, none⟩ = some (.iface 90 (.pointer (some (s n)))))

/-- An error that is none, or bears the sentinel of the place k - 1, itself or by a Fault. -/
def ErrIs (s : Nat → Addr) (k : Nat) (v : Value) (_w : World) : Prop :=
  (k = 0 ∧ v = .nilIface) ∨ (0 < k ∧ k ≤ 14 ∧ v = .iface 90 (.pointer (some (s (k - 1)))))

theorem errV_is (s : Nat → Addr) (k : Nat) (w : World) (hk : k ≤ 14) : ErrIs s k (errV s k) w := by
  unfold ErrIs errV
  by_cases h : k = 0
  · left; exact ⟨h, by rw [if_pos h]⟩
  · right; exact ⟨by omega, hk, by rw [if_neg h]⟩

end Go.Proofs.YtcihghkiidkcnaaDoor
