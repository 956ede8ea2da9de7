/- Contracts of the reference of ceil: Good, Top and May. No conditions. -/
import Derived.Test.YtmimlniofhngjaaDoorCe
import Derived.Test.YtmimlniofhngjaaDoorRefAdd
namespace Go.Proofs.YtmimlniofhngjaaDoor
open Go Go.RowKit

set_option maxRecDepth 100000 in
set_option maxHeartbeats 1600000 in
theorem rgood12_c (c : V4) (n : Int) (w : World) :
    Calls Tryd.prog 14 #[.agg #[.int .i64 c.a, .int .i64 c.b, .int .i64 c.c, .int .i64 c.d], .int .i64 n] w fun e w' => e = .returned (.bool (goodV c && ratB n)) ∧ Below w.heap.size w w' := by
  have HG := Lib.hid (fun W => rgood_x c W)
  obtain ⟨B, hB⟩ : ∃ B, goodV c = B := ⟨_, rfl⟩
  rw [hB] at HG ⊢
  clear hB
  cases B
  · go_enter Tryd.func14, Tryd.ntmps14
    go_wp2_with fail
    refine (HG.out _).mono ?_
    rintro e w1 ⟨rfl, rfl⟩
    go_wp2_with fail
    go_ret
    exact ⟨rfl, by (repeat' (first | (with_reducible exact Below.refl _ _) | (with_reducible refine below_drewN ?_ _) | (with_reducible refine Below.drew ?_) | (with_reducible refine Below.alloc ?_ ?_ _) | (with_reducible refine Below.setCell ?_ ?_ _) | (with_reducible refine Below.trans ?_ (Below.mono (by with_reducible assumption) ?_)) | omega | (simp only [World.size_alloc] at *; omega) | (with_reducible refine Below.size (B := 0) ?_)))⟩
  · go_enter Tryd.func14, Tryd.ntmps14
    go_wp2_with fail
    refine (HG.out _).mono ?_
    rintro e w1 ⟨rfl, rfl⟩
    go_wp2_with fail
    all_goals go_ret
    all_goals exact ⟨ret_bool (by rw [Bool.eq_iff_iff]; simp [ratB]; try omega), by (repeat' (first | (with_reducible exact Below.refl _ _) | (with_reducible refine below_drewN ?_ _) | (with_reducible refine Below.drew ?_) | (with_reducible refine Below.alloc ?_ ?_ _) | (with_reducible refine Below.setCell ?_ ?_ _) | (with_reducible refine Below.trans ?_ (Below.mono (by with_reducible assumption) ?_)) | omega | (simp only [World.size_alloc] at *; omega) | (with_reducible refine Below.size (B := 0) ?_)))⟩

set_option maxRecDepth 100000 in
set_option maxHeartbeats 1600000 in
theorem rtop_c (x : V4) (n : Int) (w : World) (hx : goodV x = true) (hn : ratB n = true) :
    Calls Tryd.prog 15 #[.agg #[.int .i64 x.a, .int .i64 x.b, .int .i64 x.c, .int .i64 x.d], .int .i64 n] w fun e w' => e = .returned (.agg #[.int .i64 ((topV x n)).a, .int .i64 ((topV x n)).b, .int .i64 ((topV x n)).c, .int .i64 ((topV x n)).d]) ∧ Below w.heap.size w w' := by
  obtain ⟨hn0, hn1⟩ := ratB_iff.1 hn
  have gx := (good_iff x).1 hx
  obtain ⟨a, b, c, d⟩ := x
  simp only at gx
  obtain ⟨⟨m0, m0'⟩, ⟨m1, m1'⟩, ⟨m2, m2'⟩, ⟨m3, m3'⟩⟩ := And.intro (mul_bd gx.1 ⟨by omega, hn1⟩) (And.intro (mul_bd gx.2.1 ⟨by omega, hn1⟩) (And.intro (mul_bd gx.2.2.1 ⟨by omega, hn1⟩) (mul_bd gx.2.2.2 ⟨by omega, hn1⟩)))
  clear gx
  have q0 : ∀ (ts : Array TypeId) (t : TypeId) (W : World), (Builtin.min_ ts t #[.int .i64 (a * n), .int .i64 1099511627776]).run Tryd.prog W = .ok (.int .i64 (capT (a * n))) W := fun _ _ _ => run_min_int2 _ _ _ _ _ _ _
  have q1 : ∀ (ts : Array TypeId) (t : TypeId) (W : World), (Builtin.min_ ts t #[.int .i64 (b * n), .int .i64 1099511627776]).run Tryd.prog W = .ok (.int .i64 (capT (b * n))) W := fun _ _ _ => run_min_int2 _ _ _ _ _ _ _
  have q2 : ∀ (ts : Array TypeId) (t : TypeId) (W : World), (Builtin.min_ ts t #[.int .i64 (c * n), .int .i64 1099511627776]).run Tryd.prog W = .ok (.int .i64 (capT (c * n))) W := fun _ _ _ => run_min_int2 _ _ _ _ _ _ _
  have q3 : ∀ (ts : Array TypeId) (t : TypeId) (W : World), (Builtin.min_ ts t #[.int .i64 (d * n), .int .i64 1099511627776]).run Tryd.prog W = .ok (.int .i64 (capT (d * n))) W := fun _ _ _ => run_min_int2 _ _ _ _ _ _ _
  clear hn hx
  go_enter Tryd.func15, Tryd.ntmps15
  go_wp2_with fail
  refine wp_loop_rounds 5 ?_
  repeat any_goals (rw [rounds_succ]; go_wp2_with fail)
  exact bodyPost_ret (v := .agg #[.int .i64 ((topV ⟨a, b, c, d⟩ n)).a, .int .i64 ((topV ⟨a, b, c, d⟩ n)).b, .int .i64 ((topV ⟨a, b, c, d⟩ n)).c, .int .i64 ((topV ⟨a, b, c, d⟩ n)).d]) (by simp [results, Tryd.results15, go_sem, topV]) rfl ⟨rfl, by (repeat' (first | (with_reducible exact Below.refl _ _) | (with_reducible refine below_drewN ?_ _) | (with_reducible refine Below.drew ?_) | (with_reducible refine Below.alloc ?_ ?_ _) | (with_reducible refine Below.setCell ?_ ?_ _) | (with_reducible refine Below.trans ?_ (Below.mono (by with_reducible assumption) ?_)) | omega | (simp only [World.size_alloc] at *; omega) | (with_reducible refine Below.size (B := 0) ?_)))⟩
end Go.Proofs.YtmimlniofhngjaaDoor
