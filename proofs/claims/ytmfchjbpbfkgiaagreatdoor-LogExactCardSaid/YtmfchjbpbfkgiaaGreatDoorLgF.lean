/- The walk of the law LogFull: whatever the arguments, it returns true. Condition: the sentinels lie as the program's text lays them. -/
import Derived.Test.YtmfchjbpbfkgiaaGreatDoorLgVa
import Derived.Test.YtmfchjbpbfkgiaaGreatDoorOwn6
import Derived.Test.YtmfchjbpbfkgiaaGreatDoorFrSz
namespace Go.Proofs.YtmfchjbpbfkgiaaGreatDoor
open Go Go.RowKit

theorem mk_bytes (n : Nat) (W : World) (hn : n ≤ 1000000) : (Instr.makeSlice 64 (.int .i64 (n : Int)) (.int .i64 (n : Int))).run Tryz.prog W = .ok (.slice (some ⟨W.heap.size, 0, none⟩) n n) (W.alloc (.cells (madeCells #[.int .u8 0] n) 5)) :=
  run_make_row' _ _ _ 1 Tryz.underlying64 Tryz.infoB rfl .i64 .i64 n (by omega) (by omega) W
theorem cv_bytes (n : Nat) (W : World) : (convert 64 9 (.slice (some ⟨W.heap.size, 0, none⟩) n n)).run Tryz.prog (W.alloc (.cells (madeCells #[.int .u8 0] n) 5)) = .ok (.string (bst (List.replicate n 0))) (W.alloc (.cells (madeCells #[.int .u8 0] n) 5)) := by
  have h := conv_row (W.alloc (.cells (madeCells #[.int .u8 0] n) 5)) W.heap.size 0 n (List.replicate n 0) fun j hj => by
    rw [Nat.zero_add]; exact ((zeros_row W n).2 j hj).1
  rw [List.length_replicate] at h
  exact h

def m_room (m u : Nat) : Int := ((m - u : Nat) : Int)
/-- What a round of the loop begins with. -/
def FuRel (w : World) (q p g cap : Nat) (zs : List Int) (sure i : Value) (wr : World) : Prop :=
  ∃ (j : Nat) (rs : List (List UInt8)) (u v : Value) (d : DS), i = .int .i64 (j : Int) ∧ u = sure ∧ j ≤ 30 ∧ j ≤ zs.length ∧ rs.length ≤ j ∧ wr.ownsRow w.heap.size 9 1 u rs.length (strVs rs) ∧ Live wr w.heap.size q p g cap 1 10 0 v rs (200 + 108 * j) d ∧ Below w.heap.size w wr ∧
    ∀ k, u.ownBlock = some k → ¬ LogS q p g v k

end Go.Proofs.YtmfchjbpbfkgiaaGreatDoor
