/- Whom a host loses for a demand, by contract: the sum of two vectors, the allowances, the walk over the candidates. Conditions: the room's candidates lie in memory; vectors are valid. -/
import Derived.Test.YtlckofoabnnlhaaDoorViB
namespace Go.Proofs.YtlckofoabnnlhaaDoor
open Go Go.RowKit Go.Maps

set_option maxRecDepth 100000 in
set_option maxHeartbeats 1600000 in
theorem more_c (x y : V4) (w : World) (hx : goodV x = true) (hy : goodV y = true) :
    Calls Tryd.prog 42 #[.agg #[.int .i64 x.a, .int .i64 x.b, .int .i64 x.c, .int .i64 x.d], .agg #[.int .i64 y.a, .int .i64 y.b, .int .i64 y.c, .int .i64 y.d]] w fun e w' => e = .returned (.agg #[.int .i64 ((moreV x y)).a, .int .i64 ((moreV x y)).b, .int .i64 ((moreV x y)).c, .int .i64 ((moreV x y)).d]) ∧ Below w.heap.size w w' := by
  have gx := (good_iff x).1 hx
  have gy := (good_iff y).1 hy
  unfold moreV
  obtain ⟨a, b, c, d⟩ := x
  obtain ⟨a', b', c', d'⟩ := y
  simp only at gx gy ⊢
  obtain ⟨⟨g0, g0'⟩, ⟨g1, g1'⟩, ⟨g2, g2'⟩, ⟨g3, g3'⟩⟩ := gx
  obtain ⟨⟨k0, k0'⟩, ⟨k1, k1'⟩, ⟨k2, k2'⟩, ⟨k3, k3'⟩⟩ := gy
  have i0 := ix0
  have i1 := ix1
  have i2 := ix2
  have i3 := ix3
  have q0 : ∀ (ts : Array TypeId) (t : TypeId) (W : World), (Builtin.min_ ts t #[.int .i64 (a + a'), .int .i64 1099511627776]).run Tryd.prog W = .ok (.int .i64 (capM (a + a'))) W := fun _ _ _ => run_min_int2 _ _ _ _ _ _ _
  have q1 : ∀ (ts : Array TypeId) (t : TypeId) (W : World), (Builtin.min_ ts t #[.int .i64 (b + b'), .int .i64 1099511627776]).run Tryd.prog W = .ok (.int .i64 (capM (b + b'))) W := fun _ _ _ => run_min_int2 _ _ _ _ _ _ _
  have q2 : ∀ (ts : Array TypeId) (t : TypeId) (W : World), (Builtin.min_ ts t #[.int .i64 (c + c'), .int .i64 1099511627776]).run Tryd.prog W = .ok (.int .i64 (capM (c + c'))) W := fun _ _ _ => run_min_int2 _ _ _ _ _ _ _
  have q3 : ∀ (ts : Array TypeId) (t : TypeId) (W : World), (Builtin.min_ ts t #[.int .i64 (d + d'), .int .i64 1099511627776]).run Tryd.prog W = .ok (.int .i64 (capM (d + d'))) W := fun _ _ _ => run_min_int2 _ _ _ _ _ _ _
  go_enter Tryd.func42, Tryd.ntmps42
  go_wp2_with fail
  refine wp_loop_rounds 5 ?_
  repeat any_goals (rw [rounds_succ]; go_wp2_with fail)
  exact bodyPost_ret (v := .agg #[.int .i64 (capM (a + a')), .int .i64 (capM (b + b')), .int .i64 (capM (c + c')), .int .i64 (capM (d + d'))]) (by simp [results, Tryd.results42, go_sem]) rfl ⟨rfl, by (repeat' (first | (with_reducible exact Below.refl _ _) | (with_reducible refine below_drewN ?_ _) | (with_reducible refine Below.drew ?_) | (with_reducible refine Below.alloc ?_ ?_ _) | (with_reducible refine Below.setCell ?_ ?_ _) | (with_reducible refine Below.trans ?_ (Below.mono (by with_reducible assumption) ?_)) | omega | (simp only [World.size_alloc] at *; omega) | (with_reducible refine Below.size (B := 0) ?_)))⟩
theorem goodM {x y : V4} (hx : goodV x = true) (hy : goodV y = true) : goodV (moreV x y) = true := by
  have gx := (good_iff x).1 hx
  have gy := (good_iff y).1 hy
  rw [good_iff]
  unfold moreV capM
  refine ⟨⟨?_, ?_⟩, ⟨?_, ?_⟩, ⟨?_, ?_⟩, ?_, ?_⟩ <;> (simp only; split <;> omega)
/-- The allowance of a job, by the plan. -/
theorem allow_c (p B : Nat) (valid : Bool) (A : Option Addr) (c : Nat) (R : List Hst) (mb : Nat) (T : List (Int × Int)) (j : Int) (w : World) (h : PlanAt w p B valid A c R mb T) (hj : i64 j) :
    Calls Tryd.prog 21 #[.pointer (some ⟨p, 0, none⟩), .int .i64 j] w fun e w' => e = .returned (.int .i64 ((look T j).getD 0)) ∧ Below w.heap.size w w' := by
  obtain ⟨p0, p1, p2, pl⟩ := h.cells
  have HM := Lib.hid h.map
  have HJ := Lib.hid hj
  clear h hj
  obtain ⟨v, hv⟩ : ∃ v, Value.int .i64 ((look T j).getD 0) = v := ⟨_, rfl⟩
  rw [hv]
  have HV := Lib.hid hv
  clear hv
  have hz : (zeroValue 3).run Tryd.prog w = .ok (.int .i64 0) w := Tryd.zeroValue3 w
  go_enter Tryd.func21, Tryd.ntmps21
  go_wp2_with (at_lookup; refine wpList_lookG _ kitI rfl _ _ 56 rfl 3 Tryd.underlying56 (Value.int .i64) 0 hz mb T rfl HM.out j rfl HJ.out _ HV.out ?_)
  go_ret
  exact ⟨rfl, Below.refl _ _⟩
/-- The allowance that no job uses up. -/
theorem unlim_c (j : Int) (w : World) : Calls Tryd.prog 22 #[.int .i64 j] w fun e w' => e = .returned (.int .i64 (alInf j)) ∧ Below w.heap.size w w' := by
  unfold alInf
  go_enter Tryd.func22, Tryd.ntmps22
  go_wp2_with fail
  go_ret
  exact ⟨rfl, Below.refl _ _⟩
end Go.Proofs.YtlckofoabnnlhaaDoor
