/- Numbers as Go reads them in a map, as a key or in one. No conditions. -/
import Derived.Test.YtlckofoabnnlhaaDoorMpG
import Derived.Test.YtlckofoabnnlhaaDoorI64
import Derived.DeepKeys5
namespace Go.Proofs.YtlckofoabnnlhaaDoor
open Go Go.RowKit Go.Maps

theorem i64_wf {n : Int} (h : i64 n) : (Lit.int .i64 n).wf = true := by
  show (decide ((-9223372036854775808 : Int) ≤ n) && decide (n ≤ 9223372036854775807)) = true
  simp [h.1, h.2]
theorem wf_i64 {n : Int} (h : (Lit.int .i64 n).wf = true) : i64 n := by
  have h : (decide ((-9223372036854775808 : Int) ≤ n) && decide (n ≤ 9223372036854775807)) = true := h
  unfold i64; simpa using h
theorem keyT_laid : laidOutB Tryd.prog = true := by kernel_rfl
theorem keyT_cells1 : Tryd.prog.cellsOf 3 = 1 := by kernel_rfl
theorem keyLit1 (m : Nat) (v : Value) : Tryd.prog.keyLits (m + 1) 3 [v] = (match v with | .int q n => if q = .i64 ∧ (Lit.int .i64 n).wf = true then some [.int .i64 n] else none | _ => none) := by
  unfold Program.keyLits
  rw [Tryd.underlying3]
  cases v <;> rfl
theorem lit1_some {m : Nat} {v : Value} {l : List Lit} (h : Tryd.prog.keyLits (m + 1) 3 [v] = some l) : ∃ n, i64 n ∧ v = .int .i64 n := by
  rw [keyLit1] at h
  cases v <;> simp at h
  rename_i q n
  obtain ⟨⟨rfl, hw⟩, _⟩ := h
  exact ⟨n, wf_i64 hw, rfl⟩
theorem keyI_of {x : Int} (h : i64 x) : keyOf Tryd.prog 3 (.int .i64 x) = some (.int .i64 x) := by
  simp [keyOf, Tryd.underlying3, mapKey, i64_wf h]
/-- How an int reads as a map's key. -/
theorem kitI : KeyKit Tryd.prog 3 (Value.int .i64) (Lit.int .i64) i64 :=
  ⟨int_keyed Tryd.underlying3, keyI_of, fun h => by obtain ⟨x, h1, _, h3⟩ := Maps.keyOf_i64 Tryd.underlying3 h; exact ⟨x, wf_i64 h3, h1⟩, fun h => by simpa using h⟩
end Go.Proofs.YtlckofoabnnlhaaDoor
