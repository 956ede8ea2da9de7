/- Tasks: how one lies in memory, how one reads as a map's key, when two are the same. No conditions. -/
import Derived.Test.YtlckofoabnnlhaaDoorKeyN
import Derived.Test.YtlckofoabnnlhaaDoorAlM
import Derived.Test.YtlckofoabnnlhaaDoorRwT
import Derived.Laws.StructEq
namespace Go.Proofs.YtlckofoabnnlhaaDoor
open Go Go.RowKit Go.Maps

/-- A task as a value. -/
def tv (x : Tk) : Value := .agg #[.int .i64 x.job, .int .i64 x.ix]
def okT (x : Tk) : Prop := i64 x.job ∧ i64 x.ix
def klT (x : Tk) : Lit := .string (keyBytes [.int .i64 x.job, .int .i64 x.ix])
def encTk : EncK Tk 2 where
  enc x := [.int .i64 x.job, .int .i64 x.ix]
  len _ := rfl
  one x u hu := by simp at hu; rcases hu with rfl | rfl <;> rfl
theorem tv_inj {x y : Tk} (h : tv x = tv y) : x = y := by
  obtain ⟨a, b⟩ := x
  obtain ⟨a', b'⟩ := y
  simpa [tv] using h
theorem taskT_row : (33 : TypeId) < Tryd.prog.types.size := of_decide_eq_true (by kernel_rfl)
theorem taskT_wide : (match Tryd.prog.underlying 33 with | some (.array _ _) | some (.struct _) => true | _ => false) = true := by kernel_rfl
set_option maxRecDepth 100000 in
theorem taskT_law : WideMaps.KeyLaw Tryd.prog 33 := deep_law_laid keyT_laid (m := 2) (by omega) taskT_row (by kernel_rfl) taskT_wide
theorem taskT_type : Tryd.prog.keyType 33 = true := by kernel_rfl
theorem taskT_cells : Tryd.prog.cellsOf 33 = 2 := by kernel_rfl
theorem taskT_fuel : ∃ m, Tryd.prog.types.size + 1 = m + 2 := ⟨Tryd.prog.types.size + 1 - 2, by kernel_rfl⟩
/-- The literals of a task's two cells. -/
theorem keyLits2 (m : Nat) (v0 v1 : Value) : Tryd.prog.keyLits (m + 2) 33 [v0, v1] =
    (Tryd.prog.keyLits (m + 1) 3 [v0]).bind fun l0 => (Tryd.prog.keyLits (m + 1) 3 [v1]).bind fun l1 => some (l0 ++ l1) := by
  conv => lhs; unfold Program.keyLits
  rw [Tryd.underlying33]
  simp [taskT_cells, keyT_cells1]
  cases Tryd.prog.keyLits (m + 1) 3 [v0] <;> cases Tryd.prog.keyLits (m + 1) 3 [v1] <;> simp
set_option maxRecDepth 100000 in
theorem keyT_of {x : Tk} (h : okT x) : keyOf Tryd.prog 33 (tv x) = some (klT x) := by
  obtain ⟨m, hm⟩ := taskT_fuel
  obtain ⟨h0, h1⟩ := h
  have hf : (tv x).formed Tryd.prog 33 = true := by
    unfold tv Value.formed
    rw [Tryd.underlying33]
    simp [taskT_cells]
  unfold keyOf
  rw [hf, taskT_type, hm, Tryd.underlying33]
  simp only [Bool.and_self, if_true, tv, Value.cells]
  rw [keyLits2, keyLit1, keyLit1]
  simp [i64_wf h0, i64_wf h1, klT]
set_option maxRecDepth 100000 in
theorem keyT_inv {v : Value} {l : Lit} (h : keyOf Tryd.prog 33 v = some l) : ∃ x, okT x ∧ v = tv x := by
  obtain ⟨m, hm⟩ := taskT_fuel
  unfold keyOf at h
  rw [taskT_type, hm, Tryd.underlying33] at h
  simp only [Bool.true_and] at h
  by_cases hf : v.formed Tryd.prog 33 = true
  · rw [if_pos hf] at h
    unfold Value.formed at hf
    rw [Tryd.underlying33] at hf
    cases v <;> simp [taskT_cells] at hf
    rename_i cs
    obtain ⟨cl⟩ := cs
    simp only [List.size_toArray] at hf
    match cl, hf with
    | [v0, v1], _ =>
      simp only [Value.cells] at h
      rw [keyLits2] at h
      obtain ⟨L, hL, _⟩ := Option.map_eq_some_iff.1 h
      obtain ⟨l0, h0, hL⟩ := Option.bind_eq_some_iff.1 hL
      obtain ⟨l1, h1, hL⟩ := Option.bind_eq_some_iff.1 hL
      obtain ⟨n0, k0, rfl⟩ := lit1_some h0
      obtain ⟨n1, k1, rfl⟩ := lit1_some h1
      exact ⟨⟨n0, n1⟩, ⟨k0, k1⟩, rfl⟩
  · rw [if_neg hf] at h; cases h
/-- How a Task reads as a map's key. -/
theorem kitT : KeyKit Tryd.prog 33 tv klT okT := ⟨Keyed.of_law taskT_law, keyT_of, keyT_inv, tv_inj⟩

/-- Two tasks are the same if both of their numbers are. -/
theorem eqTk (x y : Tk) (w : World) : (Op.equalIn 10000 33 (.agg #[.int .i64 x.job, .int .i64 x.ix]) (.agg #[.int .i64 y.job, .int .i64 y.ix])).run Tryd.prog w = .ok (decide (x = y)) w := by
  have hs : Tryd.prog.stoodInHeld 33 = false := by kernel_rfl
  have ht : Tryd.prog.underlying 33 = some (.struct (Tryd.prog.fieldsOf 33)) := by kernel_rfl
  have hf : ∃ fs, Tryd.prog.fieldsOf 33 = fs ∧ Tryd.prog.underlying 33 = some (.struct fs) := ⟨_, rfl, ht⟩
  obtain ⟨fs, h1, h2⟩ := hf
  rw [Tryd.underlying33] at h2
  simp only [Option.some.injEq, TypeDesc.struct.injEq] at h2
  subst h2
  rw [run_equalIn_agg w 9999 33 _ _ ht hs, h1]
  have q0 : ∀ (W : World) (a0 a1 : Value), (part 3 #[a0, a1] 0).run Tryd.prog W = .ok a0 W := fun _ _ _ => by kernel_rfl
  have q1 : ∀ (W : World) (a0 a1 : Value), (part 3 #[a0, a1] 1).run Tryd.prog W = .ok a1 W := fun _ _ _ => by kernel_rfl
  have e : decide (x = y) = (decide (x.job = y.job) && decide (x.ix = y.ix)) := by
    rw [Bool.eq_iff_iff]
    simp only [Bool.and_eq_true, decide_eq_true_eq]
    exact ⟨fun h => by rw [h]; exact ⟨rfl, rfl⟩, fun h => Tk.eq h.1 h.2⟩
  rw [e]
  by_cases e0 : x.job = y.job <;> by_cases e1 : x.ix = y.ix <;>
    simp [Op.eqFields, q0, q1, run_equalIn_int _ _ _ _ _ _ _ Tryd.underlying3, e0, e1]
theorem Tryd.infoTk : (Tryd.prog.info? 33).map (fun i => (i.zero, i.size, i.bytes)) = some (some (.agg #[.int .i64 0, .int .i64 0]), 2, 16) := by kernel_rfl
end Go.Proofs.YtlckofoabnnlhaaDoor
