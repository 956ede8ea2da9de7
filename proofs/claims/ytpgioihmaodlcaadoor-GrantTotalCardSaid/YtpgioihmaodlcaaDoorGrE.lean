/- Equality of places and of accounts, an account's fields; a map's look-up as a run. No conditions. -/
import Derived.Test.YtpgioihmaodlcaaDoorVec
import Derived.Test.YtpgioihmaodlcaaDoorGrM
import Derived.Test.YtpgioihmaodlcaaDoorKeyV
namespace Go.Proofs.YtpgioihmaodlcaaDoor
open Go Go.RowKit Go.Maps

/-- An account as a value. -/
def encA (x : Acc) : Value := .agg #[.int .i64 x.f.a, .int .i64 x.f.b, .int .i64 x.f.c, .int .i64 x.f.d, .int .i64 x.c.a, .int .i64 x.c.b, .int .i64 x.c.c, .int .i64 x.c.d, .int .i64 x.h.a, .int .i64 x.h.b, .int .i64 x.h.c, .int .i64 x.h.d]
theorem Tryd.zeroA (w : World) : (zeroValue 37).run Tryd.prog w = .ok (encA zA) w := Tryd.zeroValue37 w

theorem eqV9 (x0 x1 x2 x3 y0 y1 y2 y3 : Int) (w : World) : (Op.equalIn 9999 29 (.agg #[.int .i64 x0, .int .i64 x1, .int .i64 x2, .int .i64 x3]) (.agg #[.int .i64 y0, .int .i64 y1, .int .i64 y2, .int .i64 y3])).run Tryd.prog w
    = .ok (x0 == y0 && (x1 == y1 && (x2 == y2 && x3 == y3))) w := by
  have hi : (Tryd.prog.info? 3).isSome = true := by kernel_rfl
  obtain ⟨i, hi⟩ := Option.isSome_iff_exists.1 hi
  have hc : Tryd.prog.cellsOf 3 = 1 := by kernel_rfl
  have hu : Tryd.prog.underlying 29 = some (.array 4 3) := by kernel_rfl
  have q0 : ∀ (W : World) (a0 a1 a2 a3 : Value), (part 3 #[a0, a1, a2, a3] 0).run Tryd.prog W = .ok a0 W := fun _ _ _ _ _ => by kernel_rfl
  have q1 : ∀ (W : World) (a0 a1 a2 a3 : Value), (part 3 #[a0, a1, a2, a3] 1).run Tryd.prog W = .ok a1 W := fun _ _ _ _ _ => by kernel_rfl
  have q2 : ∀ (W : World) (a0 a1 a2 a3 : Value), (part 3 #[a0, a1, a2, a3] 2).run Tryd.prog W = .ok a2 W := fun _ _ _ _ _ => by kernel_rfl
  have q3 : ∀ (W : World) (a0 a1 a2 a3 : Value), (part 3 #[a0, a1, a2, a3] 3).run Tryd.prog W = .ok a3 W := fun _ _ _ _ _ => by kernel_rfl
  rw [run_equalIn_array w 9998 _ _ hu hi, hc]
  simp only [Op.eqItems, List.range, List.range.loop, Nat.mul_one, Sem.run_bind, q0, run_equalIn_int _ _ _ _ _ _ _ Tryd.underlying3, Result.andThen_ok]
  cases e0 : x0 == y0 <;> cases e1 : x1 == y1 <;> cases e2 : x2 == y2 <;> cases e3 : x3 == y3 <;>
    simp [q1, q2, q3, run_equalIn_int _ _ _ _ _ _ _ Tryd.underlying3, e1, e2, e3]
theorem beqV (x y : V4) : (x.a == y.a && (x.b == y.b && (x.c == y.c && x.d == y.d))) = decide (x = y) := by
  rw [Bool.eq_iff_iff]
  simp only [Bool.and_eq_true, beq_iff_eq, decide_eq_true_eq]
  exact ⟨fun h => V4.eq h.1 h.2.1 h.2.2.1 h.2.2.2, fun h => by rw [h]; exact ⟨rfl, rfl, rfl, rfl⟩⟩
/-- Equality of vectors as values. -/
theorem eqVd (x y : V4) (w : World) : (Op.equalIn 10000 29 (.agg #[.int .i64 x.a, .int .i64 x.b, .int .i64 x.c, .int .i64 x.d]) (.agg #[.int .i64 y.a, .int .i64 y.b, .int .i64 y.c, .int .i64 y.d])).run Tryd.prog w = .ok (decide (x = y)) w := by rw [eqV, beqV]
theorem eqV9d (x y : V4) (w : World) : (Op.equalIn 9999 29 (.agg #[.int .i64 x.a, .int .i64 x.b, .int .i64 x.c, .int .i64 x.d]) (.agg #[.int .i64 y.a, .int .i64 y.b, .int .i64 y.c, .int .i64 y.d])).run Tryd.prog w = .ok (decide (x = y)) w := by rw [eqV9, beqV]

/-- Places are the same if their three numbers are. -/
theorem eqPl (x0 x1 x2 y0 y1 y2 : Int) (w : World) : (Op.equalIn 10000 24 (.agg #[.int .i64 x0, .int .i64 x1, .int .i64 x2]) (.agg #[.int .i64 y0, .int .i64 y1, .int .i64 y2])).run Tryd.prog w = .ok (decide (x0 = y0 ∧ x1 = y1 ∧ x2 = y2)) w := by
  have hs : Tryd.prog.stoodInHeld 24 = false := by kernel_rfl
  have ht : Tryd.prog.underlying 24 = some (.struct (Tryd.prog.fieldsOf 24)) := by kernel_rfl
  have hf : ∃ fs, Tryd.prog.fieldsOf 24 = fs ∧ Tryd.prog.underlying 24 = some (.struct fs) := ⟨_, rfl, ht⟩
  obtain ⟨fs, h1, h2⟩ := hf
  rw [Tryd.underlying24] at h2
  simp only [Option.some.injEq, TypeDesc.struct.injEq] at h2
  subst h2
  rw [run_equalIn_agg w 9999 24 _ _ ht hs, h1]
  have q0 : ∀ (W : World) (a0 a1 a2 : Value), (part 3 #[a0, a1, a2] 0).run Tryd.prog W = .ok a0 W := fun _ _ _ _ => by kernel_rfl
  have q1 : ∀ (W : World) (a0 a1 a2 : Value), (part 3 #[a0, a1, a2] 1).run Tryd.prog W = .ok a1 W := fun _ _ _ _ => by kernel_rfl
  have q2 : ∀ (W : World) (a0 a1 a2 : Value), (part 3 #[a0, a1, a2] 2).run Tryd.prog W = .ok a2 W := fun _ _ _ _ => by kernel_rfl
  by_cases e0 : x0 = y0 <;> by_cases e1 : x1 = y1 <;> by_cases e2 : x2 = y2 <;>
    simp [Op.eqFields, q0, q1, q2, run_equalIn_int _ _ _ _ _ _ _ Tryd.underlying3, e0, e1, e2]
theorem part0A (a0 a1 a2 a3 a4 a5 a6 a7 a8 a9 a10 a11 : Value) (W : World) : (part 29 #[a0, a1, a2, a3, a4, a5, a6, a7, a8, a9, a10, a11] 0).run Tryd.prog W = .ok (.agg #[a0, a1, a2, a3]) W := by kernel_rfl
theorem part4A (a0 a1 a2 a3 a4 a5 a6 a7 a8 a9 a10 a11 : Value) (W : World) : (part 29 #[a0, a1, a2, a3, a4, a5, a6, a7, a8, a9, a10, a11] 4).run Tryd.prog W = .ok (.agg #[a4, a5, a6, a7]) W := by kernel_rfl
theorem part8A (a0 a1 a2 a3 a4 a5 a6 a7 a8 a9 a10 a11 : Value) (W : World) : (part 29 #[a0, a1, a2, a3, a4, a5, a6, a7, a8, a9, a10, a11] 8).run Tryd.prog W = .ok (.agg #[a8, a9, a10, a11]) W := by kernel_rfl
/-- Accounts are the same if all their numbers are. -/
theorem eqAc (x y : Acc) (w : World) : (Op.equalIn 10000 37 (encA x) (encA y)).run Tryd.prog w = .ok (decide (x = y)) w := by
  have hs : Tryd.prog.stoodInHeld 37 = false := by kernel_rfl
  have ht : Tryd.prog.underlying 37 = some (.struct (Tryd.prog.fieldsOf 37)) := by kernel_rfl
  have hf : ∃ fs, Tryd.prog.fieldsOf 37 = fs ∧ Tryd.prog.underlying 37 = some (.struct fs) := ⟨_, rfl, ht⟩
  obtain ⟨fs, h1, h2⟩ := hf
  rw [Tryd.underlying37] at h2
  simp only [Option.some.injEq, TypeDesc.struct.injEq] at h2
  subst h2
  unfold encA
  rw [run_equalIn_agg w 9999 37 _ _ ht hs, h1]
  have e : decide (x = y) = (decide (x.f = y.f) && (decide (x.c = y.c) && decide (x.h = y.h))) := by
    rw [Bool.eq_iff_iff]
    simp only [Bool.and_eq_true, decide_eq_true_eq]
    exact ⟨fun h => by rw [h]; exact ⟨rfl, rfl, rfl⟩, fun h => Acc.eq h.1 h.2.1 h.2.2⟩
  rw [e]
  have n1 : ("Free" ≠ "_") = True := by simp
  have n2 : ("Charged" ≠ "_") = True := by simp
  have n3 : ("Held" ≠ "_") = True := by simp
  cases e0 : decide (x.f = y.f) <;> cases e1 : decide (x.c = y.c) <;> cases e2 : decide (x.h = y.h) <;>
    simp only [Op.eqFields, n1, n2, n3, if_true, Sem.run_bind, part0A, part4A, part8A, eqV9d, e0, e1, e2, Result.andThen_ok, Bool.not_true, Bool.not_false, Bool.false_eq_true, if_false, Sem.run_pure, Bool.and_true, Bool.and_false]
theorem field0A (a0 a1 a2 a3 a4 a5 a6 a7 a8 a9 a10 a11 : Value) (W : World) : (Instr.field 37 (.agg #[a0, a1, a2, a3, a4, a5, a6, a7, a8, a9, a10, a11]) 0).run Tryd.prog W = .ok (.agg #[a0, a1, a2, a3]) W := by kernel_rfl
theorem field1A (a0 a1 a2 a3 a4 a5 a6 a7 a8 a9 a10 a11 : Value) (W : World) : (Instr.field 37 (.agg #[a0, a1, a2, a3, a4, a5, a6, a7, a8, a9, a10, a11]) 1).run Tryd.prog W = .ok (.agg #[a4, a5, a6, a7]) W := by kernel_rfl
theorem field2A (a0 a1 a2 a3 a4 a5 a6 a7 a8 a9 a10 a11 : Value) (W : World) : (Instr.field 37 (.agg #[a0, a1, a2, a3, a4, a5, a6, a7, a8, a9, a10, a11]) 2).run Tryd.prog W = .ok (.agg #[a8, a9, a10, a11]) W := by kernel_rfl
/-- 'm[x]' as a run. -/
theorem run_lookG {κ α : Type} [DecidableEq κ] {P : Program} {k : TypeId} {kv : κ → Value} {kl : κ → Lit} {ok : κ → Prop} (K : KeyKit P k kv kl ok) {t e : TypeId} (ht : P.underlying t = some (.map k e)) {enc : α → Value} {z : α} {w : World}
    (hz : (zeroValue e).run P w = .ok (enc z) w) {b : Nat} {T : List (κ × α)} (h : MapG P k kl ok enc w b T) {y : κ} (hy : ok y) : (Instr.lookup t (.map (some b)) (kv y) false).run P w = .ok (enc ((look T y).getD z)) w := by
  obtain ⟨D, hown, hme⟩ := h
  obtain ⟨v, ps, hrun, hR⟩ := hown.lookup K.keyed ht hz (zd := .held (enc z)) (zp := []) rfl (K.of hy)
  have e1 : DataW.held v = D.atKey (kl y) (.held (enc z)) := congrArg Prod.fst (Option.some.inj hR)
  rw [hme.at_ y hy] at e1
  have hv : v = enc ((look T y).getD z) := by
    cases e : look T y with
    | none => rw [e] at e1; exact DataW.held.inj e1
    | some u => rw [e] at e1; exact DataW.held.inj e1
  rw [← hv]; exact hrun
end Go.Proofs.YtpgioihmaodlcaaDoor
