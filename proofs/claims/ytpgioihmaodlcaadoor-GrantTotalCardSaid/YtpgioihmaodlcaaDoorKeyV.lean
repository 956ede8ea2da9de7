/- Keys of four numbers (a tenant, and a place of a cell, a band and a window) as Go reads them in a map. No conditions. -/
import Derived.Test.YtpgioihmaodlcaaDoorMpG
import Derived.Test.YtpgioihmaodlcaaDoorVecM
import Derived.DeepKeys5
namespace Go.Proofs.YtpgioihmaodlcaaDoor
open Go Go.RowKit Go.Maps

/-- A number of the kind int. -/
def i64 (n : Int) : Prop := -9223372036854775808 ≤ n ∧ n ≤ 9223372036854775807
/-- Four numbers of the kind int. -/
def okV (x : V4) : Prop := i64 x.a ∧ i64 x.b ∧ i64 x.c ∧ i64 x.d
/-- Four numbers as a value. -/
def vv (x : V4) : Value := .agg #[.int .i64 x.a, .int .i64 x.b, .int .i64 x.c, .int .i64 x.d]
/-- What four numbers read as, as a key. -/
def klV (x : V4) : Lit := .string (keyBytes [.int .i64 x.a, .int .i64 x.b, .int .i64 x.c, .int .i64 x.d])

theorem i64_wf {n : Int} (h : i64 n) : (Lit.int .i64 n).wf = true := by
  show (decide ((-9223372036854775808 : Int) ≤ n) && decide (n ≤ 9223372036854775807)) = true
  simp [h.1, h.2]
theorem wf_i64 {n : Int} (h : (Lit.int .i64 n).wf = true) : i64 n := by
  have h : (decide ((-9223372036854775808 : Int) ≤ n) && decide (n ≤ 9223372036854775807)) = true := h
  unfold i64; simpa using h
theorem vv_inj {x y : V4} (h : vv x = vv y) : x = y := by
  obtain ⟨a, b, c, d⟩ := x
  obtain ⟨a', b', c', d'⟩ := y
  simpa [vv] using h
theorem keyT_laid : laidOutB Tryd.prog = true := by kernel_rfl
theorem keyT_row : (31 : TypeId) < Tryd.prog.types.size := of_decide_eq_true (by kernel_rfl)
theorem keyT_wide : (match Tryd.prog.underlying 31 with | some (.array _ _) | some (.struct _) => true | _ => false) = true := by kernel_rfl
set_option maxRecDepth 100000 in
theorem keyT_law : WideMaps.KeyLaw Tryd.prog 31 := deep_law_laid keyT_laid (m := 3) (by omega) keyT_row (by kernel_rfl) keyT_wide
theorem keyT_type : Tryd.prog.keyType 31 = true := by kernel_rfl
theorem keyT_cells : Tryd.prog.cellsOf 31 = 4 := by kernel_rfl
theorem keyT_cells3 : Tryd.prog.cellsOf 24 = 3 := by kernel_rfl
theorem keyT_cells1 : Tryd.prog.cellsOf 3 = 1 := by kernel_rfl
theorem keyT_fuel : ∃ m, Tryd.prog.types.size + 1 = m + 3 := ⟨Tryd.prog.types.size + 1 - 3, by kernel_rfl⟩
theorem keyLit1 (m : Nat) (v : Value) : Tryd.prog.keyLits (m + 1) 3 [v] = (match v with | .int q n => if q = .i64 ∧ (Lit.int .i64 n).wf = true then some [.int .i64 n] else none | _ => none) := by
  unfold Program.keyLits
  rw [Tryd.underlying3]
  cases v <;> rfl
/-- The literals of a key's four cells. -/
theorem keyLits4 (m : Nat) (v0 v1 v2 v3 : Value) : Tryd.prog.keyLits (m + 3) 31 [v0, v1, v2, v3] =
    (Tryd.prog.keyLits (m + 2) 3 [v0]).bind fun l0 => (Tryd.prog.keyLits (m + 1) 3 [v1]).bind fun l1 => (Tryd.prog.keyLits (m + 1) 3 [v2]).bind fun l2 => (Tryd.prog.keyLits (m + 1) 3 [v3]).bind fun l3 => some (l0 ++ l1 ++ l2 ++ l3) := by
  have e3 : Tryd.prog.keyLits (m + 2) 24 [v1, v2, v3] = (Tryd.prog.keyLits (m + 1) 3 [v1]).bind fun l1 => (Tryd.prog.keyLits (m + 1) 3 [v2]).bind fun l2 => (Tryd.prog.keyLits (m + 1) 3 [v3]).bind fun l3 => some (l1 ++ l2 ++ l3) := by
    conv => lhs; unfold Program.keyLits
    rw [Tryd.underlying24]
    simp [keyT_cells3, keyT_cells1]
    cases Tryd.prog.keyLits (m + 1) 3 [v1] <;> cases Tryd.prog.keyLits (m + 1) 3 [v2] <;> cases Tryd.prog.keyLits (m + 1) 3 [v3] <;> simp
  conv => lhs; unfold Program.keyLits
  rw [Tryd.underlying31]
  simp [keyT_cells, keyT_cells3, keyT_cells1, e3]
  cases Tryd.prog.keyLits (m + 2) 3 [v0] <;> cases Tryd.prog.keyLits (m + 1) 3 [v1] <;> cases Tryd.prog.keyLits (m + 1) 3 [v2] <;> cases Tryd.prog.keyLits (m + 1) 3 [v3] <;> simp
set_option maxRecDepth 100000 in
theorem keyV_of {x : V4} (h : okV x) : keyOf Tryd.prog 31 (vv x) = some (klV x) := by
  obtain ⟨m, hm⟩ := keyT_fuel
  obtain ⟨h0, h1, h2, h3⟩ := h
  have hf : (vv x).formed Tryd.prog 31 = true := by
    unfold vv Value.formed
    rw [Tryd.underlying31]
    simp [keyT_cells]
  unfold keyOf
  rw [hf, keyT_type, hm, Tryd.underlying31]
  simp only [Bool.and_self, if_true, vv, Value.cells]
  rw [keyLits4, keyLit1, keyLit1, keyLit1, keyLit1]
  simp [i64_wf h0, i64_wf h1, i64_wf h2, i64_wf h3, klV]
theorem lit1_some {m : Nat} {v : Value} {l : List Lit} (h : Tryd.prog.keyLits (m + 1) 3 [v] = some l) : ∃ n, i64 n ∧ v = .int .i64 n := by
  rw [keyLit1] at h
  cases v <;> simp at h
  rename_i q n
  obtain ⟨⟨rfl, hw⟩, _⟩ := h
  exact ⟨n, wf_i64 hw, rfl⟩
set_option maxRecDepth 100000 in
theorem keyV_inv {v : Value} {l : Lit} (h : keyOf Tryd.prog 31 v = some l) : ∃ x, okV x ∧ v = vv x := by
  obtain ⟨m, hm⟩ := keyT_fuel
  unfold keyOf at h
  rw [keyT_type, hm, Tryd.underlying31] at h
  simp only [Bool.true_and] at h
  by_cases hf : v.formed Tryd.prog 31 = true
  · rw [if_pos hf] at h
    unfold Value.formed at hf
    rw [Tryd.underlying31] at hf
    cases v <;> simp [keyT_cells] at hf
    rename_i cs
    obtain ⟨cl⟩ := cs
    simp only [List.size_toArray] at hf
    match cl, hf with
    | [v0, v1, v2, v3], _ =>
      simp only [Value.cells] at h
      rw [keyLits4] at h
      obtain ⟨L, hL, _⟩ := Option.map_eq_some_iff.1 h
      obtain ⟨l0, h0, hL⟩ := Option.bind_eq_some_iff.1 hL
      obtain ⟨l1, h1, hL⟩ := Option.bind_eq_some_iff.1 hL
      obtain ⟨l2, h2, hL⟩ := Option.bind_eq_some_iff.1 hL
      obtain ⟨l3, h3, hL⟩ := Option.bind_eq_some_iff.1 hL
      obtain ⟨n0, k0, rfl⟩ := lit1_some h0
      obtain ⟨n1, k1, rfl⟩ := lit1_some h1
      obtain ⟨n2, k2, rfl⟩ := lit1_some h2
      obtain ⟨n3, k3, rfl⟩ := lit1_some h3
      exact ⟨⟨n0, n1, n2, n3⟩, ⟨k0, k1, k2, k3⟩, rfl⟩
  · rw [if_neg hf] at h; cases h
/-- How a Key reads as a map's key. -/
theorem kitV : KeyKit Tryd.prog 31 vv klV okV := ⟨Keyed.of_law keyT_law, keyV_of, keyV_inv, vv_inj⟩
end Go.Proofs.YtpgioihmaodlcaaDoor
