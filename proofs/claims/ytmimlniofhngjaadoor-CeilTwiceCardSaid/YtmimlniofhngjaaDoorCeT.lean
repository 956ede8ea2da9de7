/- The walk of the law CeilTwice: whatever the vectors and the number, it returns true. Condition: the package variables lie as the program's text lays them. -/
import Derived.Test.YtmimlniofhngjaaDoorCeK
namespace Go.Proofs.YtmimlniofhngjaaDoor
open Go Go.RowKit

/-- A ratio out of any number. -/
theorem ratio_of (i : Int) : ∃ r : Int, 1 ≤ r ∧ r ≤ 16 ∧ wrap64 (1 + wrap64 ((IntKind.u64.wrap i).tmod 16)) = r := by
  have hu : 0 ≤ IntKind.u64.wrap i := by rw [IntKind.wrap_u64]; omega
  have e : (IntKind.u64.wrap i).tmod 16 = IntKind.u64.wrap i % 16 := Int.tmod_eq_emod_of_nonneg hu
  refine ⟨1 + IntKind.u64.wrap i % 16, by omega, by omega, ?_⟩
  rw [e]
  unfold wrap64
  omega
theorem may_zero {i m c : V4} {n : Int} (h : (mayR i m c n).1 = 0) : (addR i m).2 = 0 ∧ firstB m (addR i m).1 (topV c n) = 4 := by
  unfold mayR at h
  split at h
  · split at h
    · rename_i h2
      split at h
      · exact absurd h (by simp)
      · rename_i h4
        exact ⟨h2, by have := firstB_le m (addR i m).1 (topV c n); omega⟩
    · rename_i h2; exact absurd h h2
  · exact absurd h (by decide)
/-- What may be given out in two steps may be in one. -/
theorem twice_ok {i a b c : V4} {n : Int} (hc : goodV c = true) (hr : ratB n = true) (h1 : (mayR i a c n).1 = 0) (h2 : (mayR (addR i a).1 b c n).1 = 0) (hb : (addR a b).2 = 0) : (mayR i (addR a b).1 c n).1 = 0 := by
  obtain ⟨e1, f1⟩ := may_zero h1
  obtain ⟨e2, f2⟩ := may_zero h2
  obtain ⟨gi, ga, s1, _⟩ := add_sum e1
  obtain ⟨_, gb, s2, g2⟩ := add_sum e2
  obtain ⟨_, _, s3, g3⟩ := add_sum hb
  have k1 := first4_ok f1
  have k2 := first4_ok f2
  rw [s1] at k1 s2 k2 g2
  rw [s2] at k2 g2
  simp only at k1 k2 g2
  have hg : goodV ⟨i.a + (addR a b).1.a, i.b + (addR a b).1.b, i.c + (addR a b).1.c, i.d + (addR a b).1.d⟩ = true := by
    rw [s3]; simp only
    rw [show i.a + (a.a + b.a) = i.a + a.a + b.a by omega, show i.b + (a.b + b.b) = i.b + a.b + b.b by omega, show i.c + (a.c + b.c) = i.c + a.c + b.c by omega, show i.d + (a.d + b.d) = i.d + a.d + b.d by omega]
    exact g2
  have e3 : addR i (addR a b).1 = (⟨i.a + (addR a b).1.a, i.b + (addR a b).1.b, i.c + (addR a b).1.c, i.d + (addR a b).1.d⟩, 0) := by
    rw [add_yes gi g3]; unfold checkR; rw [if_pos hg]
  have one : ∀ i a b t : Int, badB a (i + a) t = false → badB b (i + a + b) t = false → badB (a + b) (i + (a + b)) t = false := fun i a b t h k => no_bad (by have := bad_no h; have := bad_no k; omega)
  rw [may_yes hc hr (by rw [e3]) (by rw [e3]; refine first_of ?_; rw [s3]; exact ⟨one _ _ _ _ k1.1 k2.1, one _ _ _ _ k1.2.1 k2.2.1, one _ _ _ _ k1.2.2.1 k2.2.2.1, one _ _ _ _ k1.2.2.2 k2.2.2.2⟩)]
/-- All that is room may be given out. -/
theorem room_may {i c : V4} {n : Int} (hi : goodV i = true) (hc : goodV c = true) (hr : ratB n = true) : (mayR i (overV (topV c n) i) c n).1 = 0 := by
  have hT := topV_good hc hr
  generalize hTT : topV c n = T at hT
  obtain ⟨⟨i0, i0'⟩, ⟨i1, i1'⟩, ⟨i2, i2'⟩, ⟨i3, i3'⟩⟩ := (good_iff i).1 hi
  obtain ⟨⟨t0, t0'⟩, ⟨t1, t1'⟩, ⟨t2, t2'⟩, ⟨t3, t3'⟩⟩ := (good_iff T).1 hT
  have one : ∀ i t : Int, 0 ≤ i → i ≤ 1099511627776 → 0 ≤ t → t ≤ 1099511627776 → (0 ≤ atLeast0 (t - i) ∧ atLeast0 (t - i) ≤ 1099511627776) ∧ (0 ≤ i + atLeast0 (t - i) ∧ i + atLeast0 (t - i) ≤ 1099511627776) ∧ (atLeast0 (t - i) = 0 ∨ i + atLeast0 (t - i) ≤ t) := fun i t h0 h1 h2 h3 => by
    unfold atLeast0; split <;> omega
  have ka := one _ _ i0 i0' t0 t0'
  have kb := one _ _ i1 i1' t1 t1'
  have kc := one _ _ i2 i2' t2 t2'
  have kd := one _ _ i3 i3' t3 t3'
  have hR : goodV (overV T i) = true := (good_iff _).2 ⟨ka.1, kb.1, kc.1, kd.1⟩
  have e3 : addR i (overV T i) = (⟨i.a + (overV T i).a, i.b + (overV T i).b, i.c + (overV T i).c, i.d + (overV T i).d⟩, 0) := by
    rw [add_yes hi hR]; unfold checkR; rw [if_pos ((good_iff _).2 ⟨ka.2.1, kb.2.1, kc.2.1, kd.2.1⟩)]
  rw [may_yes hc hr (by rw [e3]) (by rw [e3, hTT]; exact first_of ⟨no_bad ka.2.2, no_bad kb.2.2, no_bad kc.2.2, no_bad kd.2.2⟩)]
theorem none_or (i t : V4) : noneV (overV i t) = true ∨ fitsV (overV i t) (overV t i) = false := by
  have one : ∀ x y : Int, atLeast0 (x - y) = 0 ∨ ¬ atLeast0 (x - y) ≤ atLeast0 (y - x) := fun x y => by unfold atLeast0; split <;> split <;> omega
  unfold noneV fitsV overV
  simp only
  rcases one i.a t.a with h0 | h0
  · rcases one i.b t.b with h1 | h1
    · rcases one i.c t.c with h2 | h2
      · rcases one i.d t.d with h3 | h3
        · left; exact decide_eq_true ⟨h0, h1, h2, h3⟩
        · right; rw [decide_eq_false h3, Bool.and_false]
      · right; rw [decide_eq_false h2, Bool.and_false, Bool.false_and]
    · right; rw [decide_eq_false h1, Bool.and_false, Bool.false_and, Bool.false_and]
  · right; rw [decide_eq_false h0, Bool.false_and, Bool.false_and, Bool.false_and]
/-- May's answer where it is an error: some pointer. -/
theorem may_some (s : Nat → Addr) (i m c : V4) (n : Int) (w : World) (hs : Sent s w) (h : (mayR i m c n).1 ≠ 0) :
    Calls Tryd.prog 7 #[.agg #[.int .i64 i.a, .int .i64 i.b, .int .i64 i.c, .int .i64 i.d], .agg #[.int .i64 m.a, .int .i64 m.b, .int .i64 m.c, .int .i64 m.d], .agg #[.int .i64 c.a, .int .i64 c.b, .int .i64 c.c, .int .i64 c.d], .int .i64 n] w fun e w' => (∃ T p, e = .returned (.iface T (.pointer (some p)))) ∧ Below w.heap.size w w' :=
  (may_c s i m c n w hs).mono fun e w' ⟨⟨ev, he, hv⟩, hb⟩ => by
    rcases hv with ⟨_, g, h1, _⟩ | hv
    · exact ⟨⟨_, _, by rw [he, h1]⟩, hb⟩
    · exact ⟨⟨_, _, by rw [he, hv.2]; unfold errV; rw [if_neg h]⟩, hb⟩

set_option maxRecDepth 100000 in
set_option maxHeartbeats 3200000 in
theorem twice_e1 (s : Nat → Addr) (i a b c : V4) (n : Int) (w : World) (hs : Sent s w) (ht : ETy w) (h1 : (addR i a).2 ≠ 0) :
    Calls Tryd.prog 5 #[.agg #[.int .i64 i.a, .int .i64 i.b, .int .i64 i.c, .int .i64 i.d], .agg #[.int .i64 a.a, .int .i64 a.b, .int .i64 a.c, .int .i64 a.d], .agg #[.int .i64 b.a, .int .i64 b.b, .int .i64 b.c, .int .i64 b.d], .agg #[.int .i64 c.a, .int .i64 c.b, .int .i64 c.c, .int .i64 c.d], .int .i64 n] w fun e w' => e = .returned (.bool true) ∧ Below w.heap.size w w' := by
  obtain ⟨r, hr1, hr2, hr⟩ := ratio_of n
  have H1 := Lib.hid (fun W h => add_err s i a W h h1)
  generalize (addR i a).1 = S at H1
  have H2 := Lib.hid (fun W h => add_c s a b W h)
  generalize (addR a b).1 = D at H2
  generalize errV s (addR a b).2 = E2 at H2
  clear h1
  go_enter Tryd.func5, Tryd.ntmps5
  go_wp2_with fail
  refine (awake_c s _ (hs.below (B := w.heap.size) (by (repeat' (first | (with_reducible exact Below.refl _ _) | (with_reducible refine below_drewN ?_ _) | (with_reducible refine Below.drew ?_) | (with_reducible refine Below.alloc ?_ ?_ _) | (with_reducible refine Below.setCell ?_ ?_ _) | (with_reducible refine Below.trans ?_ (Below.mono (by with_reducible assumption) ?_)) | omega | (simp only [World.size_alloc] at *; omega) | (with_reducible refine Below.size (B := 0) ?_)))) (Nat.le_refl _)) (ht.below (B := w.heap.size) (by (repeat' (first | (with_reducible exact Below.refl _ _) | (with_reducible refine below_drewN ?_ _) | (with_reducible refine Below.drew ?_) | (with_reducible refine Below.alloc ?_ ?_ _) | (with_reducible refine Below.setCell ?_ ?_ _) | (with_reducible refine Below.trans ?_ (Below.mono (by with_reducible assumption) ?_)) | omega | (simp only [World.size_alloc] at *; omega) | (with_reducible refine Below.size (B := 0) ?_)))) (Nat.le_refl _))).mono ?_
  rintro e w1 ⟨rfl, hb1⟩
  have Vi : Vb w1 w.heap.size i := ((((Vb.new w i).alloc _).alloc _).alloc _).step0 hb1
  have Va : Vb w1 (w.heap.size + 1) a := (((Vb.new_at (by simp) a).alloc _).alloc _).step0 hb1
  have Vb_ : Vb w1 (w.heap.size + 1 + 1) b := ((Vb.new_at (by simp) b).alloc _).step0 hb1
  have Vc : Vb w1 (w.heap.size + 1 + 1 + 1) c := (Vb.new_at (by simp) c).step0 hb1
  obtain ⟨qi0, qi1, qi2, qi3, qif, qil⟩ := Vi.facts
  obtain ⟨qa0, qa1, qa2, qa3, qaf, qal⟩ := Va.facts
  go_wp2_with fail
  refine (H1.out _ (hs.below (B := w.heap.size) (by (repeat' (first | (with_reducible exact Below.refl _ _) | (with_reducible refine below_drewN ?_ _) | (with_reducible refine Below.drew ?_) | (with_reducible refine Below.alloc ?_ ?_ _) | (with_reducible refine Below.setCell ?_ ?_ _) | (with_reducible refine Below.trans ?_ (Below.mono (by with_reducible assumption) ?_)) | omega | (simp only [World.size_alloc] at *; omega) | (with_reducible refine Below.size (B := 0) ?_)))) (Nat.le_refl _))).mono ?_
  rintro e w2 ⟨rfl, hb2⟩
  clear qi0 qi1 qi2 qi3 qif qil qa0 qa1 qa2 qa3 qaf qal
  replace Vi := Vi.step0 hb2
  replace Va := Va.step0 hb2
  replace Vb_ := Vb_.step0 hb2
  replace Vc := Vc.step0 hb2
  obtain ⟨qa0, qa1, qa2, qa3, qaf, qal⟩ := Va.facts
  obtain ⟨qb_0, qb_1, qb_2, qb_3, qb_f, qb_l⟩ := Vb_.facts
  go_wp2_with fail
  refine (H2.out _ (hs.below (B := w.heap.size) (by (repeat' (first | (with_reducible exact Below.refl _ _) | (with_reducible refine below_drewN ?_ _) | (with_reducible refine Below.drew ?_) | (with_reducible refine Below.alloc ?_ ?_ _) | (with_reducible refine Below.setCell ?_ ?_ _) | (with_reducible refine Below.trans ?_ (Below.mono (by with_reducible assumption) ?_)) | omega | (simp only [World.size_alloc] at *; omega) | (with_reducible refine Below.size (B := 0) ?_)))) (Nat.le_refl _))).mono ?_
  rintro e w3 ⟨rfl, hb3⟩
  clear qa0 qa1 qa2 qa3 qaf qal qb_0 qb_1 qb_2 qb_3 qb_f qb_l
  replace Vi := Vi.step hb3
  replace Va := Va.step hb3
  replace Vb_ := Vb_.step hb3
  replace Vc := Vc.step hb3
  have Vs := Vb.fresh S hb3
  clear Vi
  clear Va
  clear Vb_
  clear Vc
  clear Vs
  go_wp2_with fail
  go_ret
  exact ⟨rfl, by (repeat' (first | (with_reducible exact Below.refl _ _) | (with_reducible refine below_drewN ?_ _) | (with_reducible refine Below.drew ?_) | (with_reducible refine Below.alloc ?_ ?_ _) | (with_reducible refine Below.setCell ?_ ?_ _) | (with_reducible refine Below.trans ?_ (Below.mono (by with_reducible assumption) ?_)) | omega | (simp only [World.size_alloc] at *; omega) | (with_reducible refine Below.size (B := 0) ?_)))⟩

set_option maxRecDepth 100000 in
set_option maxHeartbeats 3200000 in
theorem twice_e2 (s : Nat → Addr) (i a b c : V4) (n : Int) (w : World) (hs : Sent s w) (ht : ETy w) (h1 : (addR i a).2 = 0) (h2 : (addR a b).2 ≠ 0) :
    Calls Tryd.prog 5 #[.agg #[.int .i64 i.a, .int .i64 i.b, .int .i64 i.c, .int .i64 i.d], .agg #[.int .i64 a.a, .int .i64 a.b, .int .i64 a.c, .int .i64 a.d], .agg #[.int .i64 b.a, .int .i64 b.b, .int .i64 b.c, .int .i64 b.d], .agg #[.int .i64 c.a, .int .i64 c.b, .int .i64 c.c, .int .i64 c.d], .int .i64 n] w fun e w' => e = .returned (.bool true) ∧ Below w.heap.size w w' := by
  obtain ⟨r, hr1, hr2, hr⟩ := ratio_of n
  have H1 := Lib.hid (fun W h => add_ok s i a W h h1)
  generalize (addR i a).1 = S at H1
  have H2 := Lib.hid (fun W h => add_err s a b W h h2)
  generalize (addR a b).1 = D at H2
  clear h1 h2
  go_enter Tryd.func5, Tryd.ntmps5
  go_wp2_with fail
  refine (awake_c s _ (hs.below (B := w.heap.size) (by (repeat' (first | (with_reducible exact Below.refl _ _) | (with_reducible refine below_drewN ?_ _) | (with_reducible refine Below.drew ?_) | (with_reducible refine Below.alloc ?_ ?_ _) | (with_reducible refine Below.setCell ?_ ?_ _) | (with_reducible refine Below.trans ?_ (Below.mono (by with_reducible assumption) ?_)) | omega | (simp only [World.size_alloc] at *; omega) | (with_reducible refine Below.size (B := 0) ?_)))) (Nat.le_refl _)) (ht.below (B := w.heap.size) (by (repeat' (first | (with_reducible exact Below.refl _ _) | (with_reducible refine below_drewN ?_ _) | (with_reducible refine Below.drew ?_) | (with_reducible refine Below.alloc ?_ ?_ _) | (with_reducible refine Below.setCell ?_ ?_ _) | (with_reducible refine Below.trans ?_ (Below.mono (by with_reducible assumption) ?_)) | omega | (simp only [World.size_alloc] at *; omega) | (with_reducible refine Below.size (B := 0) ?_)))) (Nat.le_refl _))).mono ?_
  rintro e w1 ⟨rfl, hb1⟩
  have Vi : Vb w1 w.heap.size i := ((((Vb.new w i).alloc _).alloc _).alloc _).step0 hb1
  have Va : Vb w1 (w.heap.size + 1) a := (((Vb.new_at (by simp) a).alloc _).alloc _).step0 hb1
  have Vb_ : Vb w1 (w.heap.size + 1 + 1) b := ((Vb.new_at (by simp) b).alloc _).step0 hb1
  have Vc : Vb w1 (w.heap.size + 1 + 1 + 1) c := (Vb.new_at (by simp) c).step0 hb1
  obtain ⟨qi0, qi1, qi2, qi3, qif, qil⟩ := Vi.facts
  obtain ⟨qa0, qa1, qa2, qa3, qaf, qal⟩ := Va.facts
  go_wp2_with fail
  refine (H1.out _ (hs.below (B := w.heap.size) (by (repeat' (first | (with_reducible exact Below.refl _ _) | (with_reducible refine below_drewN ?_ _) | (with_reducible refine Below.drew ?_) | (with_reducible refine Below.alloc ?_ ?_ _) | (with_reducible refine Below.setCell ?_ ?_ _) | (with_reducible refine Below.trans ?_ (Below.mono (by with_reducible assumption) ?_)) | omega | (simp only [World.size_alloc] at *; omega) | (with_reducible refine Below.size (B := 0) ?_)))) (Nat.le_refl _))).mono ?_
  rintro e w2 ⟨rfl, hb2⟩
  clear qi0 qi1 qi2 qi3 qif qil qa0 qa1 qa2 qa3 qaf qal
  replace Vi := Vi.step0 hb2
  replace Va := Va.step0 hb2
  replace Vb_ := Vb_.step0 hb2
  replace Vc := Vc.step0 hb2
  obtain ⟨qa0, qa1, qa2, qa3, qaf, qal⟩ := Va.facts
  obtain ⟨qb_0, qb_1, qb_2, qb_3, qb_f, qb_l⟩ := Vb_.facts
  go_wp2_with fail
  refine (H2.out _ (hs.below (B := w.heap.size) (by (repeat' (first | (with_reducible exact Below.refl _ _) | (with_reducible refine below_drewN ?_ _) | (with_reducible refine Below.drew ?_) | (with_reducible refine Below.alloc ?_ ?_ _) | (with_reducible refine Below.setCell ?_ ?_ _) | (with_reducible refine Below.trans ?_ (Below.mono (by with_reducible assumption) ?_)) | omega | (simp only [World.size_alloc] at *; omega) | (with_reducible refine Below.size (B := 0) ?_)))) (Nat.le_refl _))).mono ?_
  rintro e w3 ⟨rfl, hb3⟩
  clear qa0 qa1 qa2 qa3 qaf qal qb_0 qb_1 qb_2 qb_3 qb_f qb_l
  replace Vi := Vi.step hb3
  replace Va := Va.step hb3
  replace Vb_ := Vb_.step hb3
  replace Vc := Vc.step hb3
  have Vs := Vb.fresh S hb3
  clear Vi
  clear Va
  clear Vb_
  clear Vc
  clear Vs
  go_wp2_with fail
  go_ret
  exact ⟨rfl, by (repeat' (first | (with_reducible exact Below.refl _ _) | (with_reducible refine below_drewN ?_ _) | (with_reducible refine Below.drew ?_) | (with_reducible refine Below.alloc ?_ ?_ _) | (with_reducible refine Below.setCell ?_ ?_ _) | (with_reducible refine Below.trans ?_ (Below.mono (by with_reducible assumption) ?_)) | omega | (simp only [World.size_alloc] at *; omega) | (with_reducible refine Below.size (B := 0) ?_)))⟩

set_option maxRecDepth 100000 in
set_option maxHeartbeats 3200000 in
theorem twice_e3 (s : Nat → Addr) (i a b c : V4) (n : Int) (w : World) (hs : Sent s w) (ht : ETy w) (h1 : (addR i a).2 = 0) (h2 : (addR a b).2 = 0) (h3 : goodV c = false) :
    Calls Tryd.prog 5 #[.agg #[.int .i64 i.a, .int .i64 i.b, .int .i64 i.c, .int .i64 i.d], .agg #[.int .i64 a.a, .int .i64 a.b, .int .i64 a.c, .int .i64 a.d], .agg #[.int .i64 b.a, .int .i64 b.b, .int .i64 b.c, .int .i64 b.d], .agg #[.int .i64 c.a, .int .i64 c.b, .int .i64 c.c, .int .i64 c.d], .int .i64 n] w fun e w' => e = .returned (.bool true) ∧ Below w.heap.size w w' := by
  obtain ⟨r, hr1, hr2, hr⟩ := ratio_of n
  have H1 := Lib.hid (fun W h => add_ok s i a W h h1)
  generalize (addR i a).1 = S at H1
  have H2 := Lib.hid (fun W h => add_ok s a b W h h2)
  generalize (addR a b).1 = D at H2
  have H3 := Lib.hid (fun W => good_c c W)
  rw [h3] at H3
  clear h1 h2 h3
  go_enter Tryd.func5, Tryd.ntmps5
  go_wp2_with fail
  refine (awake_c s _ (hs.below (B := w.heap.size) (by (repeat' (first | (with_reducible exact Below.refl _ _) | (with_reducible refine below_drewN ?_ _) | (with_reducible refine Below.drew ?_) | (with_reducible refine Below.alloc ?_ ?_ _) | (with_reducible refine Below.setCell ?_ ?_ _) | (with_reducible refine Below.trans ?_ (Below.mono (by with_reducible assumption) ?_)) | omega | (simp only [World.size_alloc] at *; omega) | (with_reducible refine Below.size (B := 0) ?_)))) (Nat.le_refl _)) (ht.below (B := w.heap.size) (by (repeat' (first | (with_reducible exact Below.refl _ _) | (with_reducible refine below_drewN ?_ _) | (with_reducible refine Below.drew ?_) | (with_reducible refine Below.alloc ?_ ?_ _) | (with_reducible refine Below.setCell ?_ ?_ _) | (with_reducible refine Below.trans ?_ (Below.mono (by with_reducible assumption) ?_)) | omega | (simp only [World.size_alloc] at *; omega) | (with_reducible refine Below.size (B := 0) ?_)))) (Nat.le_refl _))).mono ?_
  rintro e w1 ⟨rfl, hb1⟩
  have Vi : Vb w1 w.heap.size i := ((((Vb.new w i).alloc _).alloc _).alloc _).step0 hb1
  have Va : Vb w1 (w.heap.size + 1) a := (((Vb.new_at (by simp) a).alloc _).alloc _).step0 hb1
  have Vb_ : Vb w1 (w.heap.size + 1 + 1) b := ((Vb.new_at (by simp) b).alloc _).step0 hb1
  have Vc : Vb w1 (w.heap.size + 1 + 1 + 1) c := (Vb.new_at (by simp) c).step0 hb1
  obtain ⟨qi0, qi1, qi2, qi3, qif, qil⟩ := Vi.facts
  obtain ⟨qa0, qa1, qa2, qa3, qaf, qal⟩ := Va.facts
  go_wp2_with fail
  refine (H1.out _ (hs.below (B := w.heap.size) (by (repeat' (first | (with_reducible exact Below.refl _ _) | (with_reducible refine below_drewN ?_ _) | (with_reducible refine Below.drew ?_) | (with_reducible refine Below.alloc ?_ ?_ _) | (with_reducible refine Below.setCell ?_ ?_ _) | (with_reducible refine Below.trans ?_ (Below.mono (by with_reducible assumption) ?_)) | omega | (simp only [World.size_alloc] at *; omega) | (with_reducible refine Below.size (B := 0) ?_)))) (Nat.le_refl _))).mono ?_
  rintro e w2 ⟨rfl, hb2⟩
  clear qi0 qi1 qi2 qi3 qif qil qa0 qa1 qa2 qa3 qaf qal
  replace Vi := Vi.step0 hb2
  replace Va := Va.step0 hb2
  replace Vb_ := Vb_.step0 hb2
  replace Vc := Vc.step0 hb2
  obtain ⟨qa0, qa1, qa2, qa3, qaf, qal⟩ := Va.facts
  obtain ⟨qb_0, qb_1, qb_2, qb_3, qb_f, qb_l⟩ := Vb_.facts
  go_wp2_with fail
  refine (H2.out _ (hs.below (B := w.heap.size) (by (repeat' (first | (with_reducible exact Below.refl _ _) | (with_reducible refine below_drewN ?_ _) | (with_reducible refine Below.drew ?_) | (with_reducible refine Below.alloc ?_ ?_ _) | (with_reducible refine Below.setCell ?_ ?_ _) | (with_reducible refine Below.trans ?_ (Below.mono (by with_reducible assumption) ?_)) | omega | (simp only [World.size_alloc] at *; omega) | (with_reducible refine Below.size (B := 0) ?_)))) (Nat.le_refl _))).mono ?_
  rintro e w3 ⟨rfl, hb3⟩
  clear qa0 qa1 qa2 qa3 qaf qal qb_0 qb_1 qb_2 qb_3 qb_f qb_l
  replace Vi := Vi.step hb3
  replace Va := Va.step hb3
  replace Vb_ := Vb_.step hb3
  replace Vc := Vc.step hb3
  have Vs := Vb.fresh S hb3
  obtain ⟨qc0, qc1, qc2, qc3, qcf, qcl⟩ := Vc.facts
  go_wp2_with fail
  refine (H3.out _).mono ?_
  rintro e w4 ⟨rfl, hb4⟩
  clear qc0 qc1 qc2 qc3 qcf qcl
  replace Vi := Vi.step hb4
  replace Va := Va.step hb4
  replace Vb_ := Vb_.step hb4
  replace Vc := Vc.step hb4
  replace Vs := Vs.step hb4
  have Vd := Vb.fresh D hb4
  clear Vi
  clear Va
  clear Vb_
  clear Vc
  clear Vs
  clear Vd
  go_wp2_with fail
  go_ret
  exact ⟨rfl, by (repeat' (first | (with_reducible exact Below.refl _ _) | (with_reducible refine below_drewN ?_ _) | (with_reducible refine Below.drew ?_) | (with_reducible refine Below.alloc ?_ ?_ _) | (with_reducible refine Below.setCell ?_ ?_ _) | (with_reducible refine Below.trans ?_ (Below.mono (by with_reducible assumption) ?_)) | omega | (simp only [World.size_alloc] at *; omega) | (with_reducible refine Below.size (B := 0) ?_)))⟩
end Go.Proofs.YtmimlniofhngjaaDoor
