/- The law's own zeros. No conditions but the count's bound. -/
import Derived.Test.YtmfchjbpbfkgiaaDoorSme
import Derived.StillTailTactics
namespace Go.Proofs.YtmfchjbpbfkgiaaDoor
open Go Go.RowKit

set_option maxHeartbeats 1600000 in
set_option maxRecDepth 100000 in
/-- So many blocks of zeros. -/
theorem zeros_c (x : Int) (n : Nat) (w : World) (hx : x = (n : Int)) (hn : n ≤ 100000) :
    Calls Tryd.prog 15 #[.int .i64 x] w fun e w' => e = .returned (.string (bst (List.replicate (64 * n) 0))) ∧ Below w.heap.size w w' := by
  subst hx
  have hmk : ∀ W : World, (Instr.makeSlice 45 (.int .i64 (64 * (n : Int))) (.int .i64 (64 * (n : Int)))).run Tryd.prog W = .ok (.slice (some ⟨W.heap.size, 0, none⟩) (64 * n) (64 * n)) (W.alloc (.cells (madeCells #[.int .u8 0] (64 * n)) 5)) := fun W => by
    rw [show (64 : Int) * (n : Int) = ((64 * n : Nat) : Int) by omega]
    exact run_make_row' _ _ _ 1 Tryd.underlying45 Tryd.infoB rfl .i64 .i64 (64 * n) (by omega) (by omega) W
  have hcv : (convert 45 9 (.slice (some ⟨w.heap.size, 0, none⟩) (64 * n) (64 * n))).run Tryd.prog (w.alloc (.cells (madeCells #[.int .u8 0] (64 * n)) 5)) = .ok (.string (bst (List.replicate (64 * n) 0))) (w.alloc (.cells (madeCells #[.int .u8 0] (64 * n)) 5)) := by
    have h := conv_row (w.alloc (.cells (madeCells #[.int .u8 0] (64 * n)) 5)) w.heap.size 0 (64 * n) (List.replicate (64 * n) 0) fun j hj => by
      rw [Nat.zero_add]; exact ((zeros_row w (64 * n)).2 j hj).1
    rw [List.length_replicate] at h
    exact h
  have hmax : max (n : Int) 0 = (n : Int) := by omega
  go_enter Tryd.func15, Tryd.ntmps15
  go_wp2_with fail
  go_ret
  exact ⟨rfl, by (repeat' (first | (with_reducible exact Below.refl _ _) | (with_reducible refine below_drewN ?_ _) | (with_reducible refine Below.drew ?_) | (with_reducible refine Below.alloc ?_ ?_ _) | (with_reducible refine Below.setCell ?_ ?_ _) | (with_reducible refine Below.trans ?_ (Below.mono (by with_reducible assumption) ?_)) | omega | (simp only [World.size_alloc, World.size_setCell, World.size_drew, Go.Proofs.YtmfchjbpbfkgiaaDoor.World.size_drewN] at *; omega) | (with_reducible refine Below.size (B := 0) ?_)))⟩
end Go.Proofs.YtmfchjbpbfkgiaaDoor
