/- A job in a window: how it reads as a map's key; counts and evictions as they lie in memory. No conditions. -/
import Derived.Test.YtbfbhlpibclccaaDoorKeyN
import Derived.Test.YtbfbhlpibclccaaDoorSqM
import Derived.Test.YtbfbhlpibclccaaDoorRwL
import Derived.Laws.StructEq
namespace Go.Proofs.YtbfbhlpibclccaaDoor
open Go Go.RowKit Go.Maps

/-- A task as a value. -/
def kvQ (x : K2) : Value := .agg #[.int .i64 x.job, .int .i64 x.win]
def okQ (x : K2) : Prop := i64 x.job ∧ i64 x.win
def klQ (x : K2) : Lit := .string (keyBytes [.int .i64 x.job, .int .i64 x.win])
def encK2 : EncK K2 2 where
  enc x := [.int .i64 x.job, .int .i64 x.win]
  len _ := rfl
  one x u hu := by simp at hu; rcases hu with rfl | rfl <;> rfl
theorem kvQ_inj {x y : K2} (h : kvQ x = kvQ y) : x = y := by
  obtain ⟨a, b⟩ := x
  obtain ⟨a', b'⟩ := y
  simpa [kvQ] using h
theorem keyQ_row : (124 : TypeId) < Tryd.prog.types.size := of_decide_eq_true (by kernel_rfl)
theorem keyQ_wide : (match Tryd.prog.underlying 124 with | some (.array _ _) | some (.struct _) => true | _ => false) = true := by kernel_rfl
set_option maxRecDepth 100000 in
theorem keyQ_law : WideMaps.KeyLaw Tryd.prog 124 := deep_law_laid keyT_laid (m := 2) (by omega) keyQ_row (by kernel_rfl) keyQ_wide
theorem keyQ_type : Tryd.prog.keyType 124 = true := by kernel_rfl
theorem keyQ_cells : Tryd.prog.cellsOf 124 = 2 := by kernel_rfl
theorem keyQ_fuel : ∃ m, Tryd.prog.types.size + 1 = m + 2 := ⟨Tryd.prog.types.size + 1 - 2, by kernel_rfl⟩
/-- The literals of a task's two cells. -/
theorem keyLitsQ (m : Nat) (v0 v1 : Value) : Tryd.prog.keyLits (m + 2) 124 [v0, v1] =
    (Tryd.prog.keyLits (m + 1) 3 [v0]).bind fun l0 => (Tryd.prog.keyLits (m + 1) 3 [v1]).bind fun l1 => some (l0 ++ l1) := by
  conv => lhs; unfold Program.keyLits
  rw [Tryd.underlying124]
  simp [keyQ_cells, keyT_cells1]
  cases Tryd.prog.keyLits (m + 1) 3 [v0] <;> cases Tryd.prog.keyLits (m + 1) 3 [v1] <;> simp
set_option maxRecDepth 100000 in
theorem keyQ_of {x : K2} (h : okQ x) : keyOf Tryd.prog 124 (kvQ x) = some (klQ x) := by
  obtain ⟨m, hm⟩ := keyQ_fuel
  obtain ⟨h0, h1⟩ := h
  have hf : (kvQ x).formed Tryd.prog 124 = true := by
    unfold kvQ Value.formed
    rw [Tryd.underlying124]
    simp [keyQ_cells]
  unfold keyOf
  rw [hf, keyQ_type, hm, Tryd.underlying124]
  simp only [Bool.and_self, if_true, kvQ, Value.cells]
  rw [keyLitsQ, keyLit1, keyLit1]
  simp [i64_wf h0, i64_wf h1, klQ]
set_option maxRecDepth 100000 in
theorem keyQ_inv {v : Value} {l : Lit} (h : keyOf Tryd.prog 124 v = some l) : ∃ x, okQ x ∧ v = kvQ x := by
  obtain ⟨m, hm⟩ := keyQ_fuel
  unfold keyOf at h
  rw [keyQ_type, hm, Tryd.underlying124] at h
  simp only [Bool.true_and] at h
  by_cases hf : v.formed Tryd.prog 124 = true
  · rw [if_pos hf] at h
    unfold Value.formed at hf
    rw [Tryd.underlying124] at hf
    cases v <;> simp [keyQ_cells] at hf
    rename_i cs
    obtain ⟨cl⟩ := cs
    simp only [List.size_toArray] at hf
    match cl, hf with
    | [v0, v1], _ =>
      simp only [Value.cells] at h
      rw [keyLitsQ] at h
      obtain ⟨L, hL, _⟩ := Option.map_eq_some_iff.1 h
      obtain ⟨l0, h0, hL⟩ := Option.bind_eq_some_iff.1 hL
      obtain ⟨l1, h1, hL⟩ := Option.bind_eq_some_iff.1 hL
      obtain ⟨n0, k0, rfl⟩ := lit1_some h0
      obtain ⟨n1, k1, rfl⟩ := lit1_some h1
      exact ⟨⟨n0, n1⟩, ⟨k0, k1⟩, rfl⟩
  · rw [if_neg hf] at h; cases h
/-- How a Task reads as a map's key. -/
theorem kitQ : KeyKit Tryd.prog 124 kvQ klQ okQ := ⟨Keyed.of_law keyQ_law, keyQ_of, keyQ_inv, kvQ_inj⟩


/-- A count as a value. -/
def encCv (x : Ct) : Value := .agg #[.int .i64 x.job, .int .i64 x.win, .int .i64 x.free, .int .i64 x.forced]
def encCt : EncK Ct 4 where
  enc x := [.int .i64 x.job, .int .i64 x.win, .int .i64 x.free, .int .i64 x.forced]
  len _ := rfl
  one x u hu := by simp at hu; rcases hu with rfl | rfl | rfl | rfl <;> rfl
def encEv : EncK Ev 3 where
  enc x := [.int .i64 x.job, .int .i64 x.win, .bool x.frc]
  len _ := rfl
  one x u hu := by simp at hu; rcases hu with rfl | rfl | rfl <;> rfl
theorem Tryd.zeroC (w : World) : (zeroValue 85).run Tryd.prog w = .ok (encCv z0C) w := by kernel_rfl
theorem Tryd.infoCt : (Tryd.prog.info? 85).map (fun i => (i.zero, i.size, i.bytes)) = some (some (.agg #[.int .i64 0, .int .i64 0, .int .i64 0, .int .i64 0]), 4, 32) := by kernel_rfl
theorem Tryd.infoEv : (Tryd.prog.info? 82).map (fun i => (i.zero, i.size, i.bytes)) = some (some (.agg #[.int .i64 0, .int .i64 0, .bool false]), 3, 24) := by kernel_rfl
/-- Two counts are the same if all their numbers are. -/
theorem eqCt (a0 a1 a2 a3 b0 b1 b2 b3 : Int) (w : World) : (Op.equalIn 10000 85 (.agg #[.int .i64 a0, .int .i64 a1, .int .i64 a2, .int .i64 a3]) (.agg #[.int .i64 b0, .int .i64 b1, .int .i64 b2, .int .i64 b3])).run Tryd.prog w = .ok (decide (a0 = b0 ∧ a1 = b1 ∧ a2 = b2 ∧ a3 = b3)) w := by
  have hs : Tryd.prog.stoodInHeld 85 = false := by kernel_rfl
  have ht : Tryd.prog.underlying 85 = some (.struct (Tryd.prog.fieldsOf 85)) := by kernel_rfl
  have hf : ∃ fs, Tryd.prog.fieldsOf 85 = fs ∧ Tryd.prog.underlying 85 = some (.struct fs) := ⟨_, rfl, ht⟩
  obtain ⟨fs, h1, h2⟩ := hf
  rw [Tryd.underlying85] at h2
  simp only [Option.some.injEq, TypeDesc.struct.injEq] at h2
  subst h2
  rw [run_equalIn_agg w 9999 85 _ _ ht hs, h1]
  have q0 : ∀ (W : World) (a0 a1 a2 a3 : Value), (part 3 #[a0, a1, a2, a3] 0).run Tryd.prog W = .ok a0 W := fun _ _ _ _ _ => by kernel_rfl
  have q1 : ∀ (W : World) (a0 a1 a2 a3 : Value), (part 3 #[a0, a1, a2, a3] 1).run Tryd.prog W = .ok a1 W := fun _ _ _ _ _ => by kernel_rfl
  have q2 : ∀ (W : World) (a0 a1 a2 a3 : Value), (part 3 #[a0, a1, a2, a3] 2).run Tryd.prog W = .ok a2 W := fun _ _ _ _ _ => by kernel_rfl
  have q3 : ∀ (W : World) (a0 a1 a2 a3 : Value), (part 3 #[a0, a1, a2, a3] 3).run Tryd.prog W = .ok a3 W := fun _ _ _ _ _ => by kernel_rfl
  by_cases e0 : a0 = b0 <;> by_cases e1 : a1 = b1 <;> by_cases e2 : a2 = b2 <;> by_cases e3 : a3 = b3 <;>
    simp [Op.eqFields, q0, q1, q2, q3, run_equalIn_int _ _ _ _ _ _ _ Tryd.underlying3, e0, e1, e2, e3]
end Go.Proofs.YtbfbhlpibclccaaDoor
