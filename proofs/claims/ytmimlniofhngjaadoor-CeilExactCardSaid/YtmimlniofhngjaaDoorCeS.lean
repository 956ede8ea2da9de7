/- The contract of the reference's May: the plain answer. No conditions. -/
import Derived.Test.YtmimlniofhngjaaDoorCeE
import Derived.Test.YtmimlniofhngjaaDoorCeR
namespace Go.Proofs.YtmimlniofhngjaaDoor
open Go Go.RowKit

theorem add1_of_bad {i m : V4} (h : goodV i = false ∨ goodV m = false) : addR i m = (⟨0, 0, 0, 0⟩, 1) := by
  rcases h with h | h
  · exact add_no1 h
  · exact add_no2 h
theorem add_two {i m : V4} (hi : goodV i = true) (hm : goodV m = true) : (addR i m).2 = 0 ∨ (addR i m).2 = 4 := by
  rw [add_yes hi hm]; unfold checkR; split <;> simp
theorem no_m {m s t : Int} (h0 : 0 ≤ m) (h : decide (m > 0) = false) : (m != 0) = false ∨ s ≤ t :=
  .inl (by rw [show m = 0 by have := of_decide_eq_false h; omega]; rfl)
theorem no_s {m s t : Int} (h : decide (s > t) = false) : (m != 0) = false ∨ s ≤ t := .inr (by have := of_decide_eq_false h; omega)
theorem yes_b {m s t : Int} (h : decide (m > 0) = true) (k : decide (s > t) = true) : (m != 0) = true ∧ t < s :=
  ⟨by rw [bne_iff_ne]; have := of_decide_eq_true h; omega, of_decide_eq_true k⟩
theorem rmay_end4 {k : Nat} {R : Nat × Nat} (hR : (if k < 4 then (9, k) else (0, 0)) = R) (h : k = 4) : R = (0, 0) := by subst h; exact hR.symm
theorem rmay_endk {k j : Nat} {R : Nat × Nat} (hR : (if k < 4 then (9, k) else (0, 0)) = R) (h : k = j) (hj : j < 4) : R = (9, j) := by subst h; rw [if_pos hj] at hR; exact hR.symm
set_option maxRecDepth 100000 in
set_option maxHeartbeats 1600000 in
theorem rmay_bad1 (i m c : V4) (n : Int) (w : World) (h : (goodV c && ratB n) = false) :
    Calls Tryd.prog 8 #[.agg #[.int .i64 i.a, .int .i64 i.b, .int .i64 i.c, .int .i64 i.d], .agg #[.int .i64 m.a, .int .i64 m.b, .int .i64 m.c, .int .i64 m.d], .agg #[.int .i64 c.a, .int .i64 c.b, .int .i64 c.c, .int .i64 c.d], .int .i64 n] w fun e w' => e = .returned (.tuple #[.int .i64 ((mayR i m c n).1 : Nat), .int .i64 ((mayR i m c n).2 : Nat)]) ∧ Below w.heap.size w w' := by
  rw [may_none h]
  have H1 := Lib.hid (fun W => rgood12_c c n W)
  have H2 := Lib.hid (fun W => rgood_c i W)
  have H3 := Lib.hid (fun W => rgood_c m W)
  rw [h] at H1
  clear h
  go_enter Tryd.func8, Tryd.ntmps8
  go_wp2_with fail
  refine (H1.out _).mono ?_
  rintro e w2 ⟨rfl, hb2⟩
  go_wp2_with fail
  exact bodyPost_ret (v := .tuple #[.int .i64 1, .int .i64 0]) (by simp [results, Tryd.results8, go_sem]) rfl ⟨rfl, by (repeat' (first | (with_reducible exact Below.refl _ _) | (with_reducible refine below_drewN ?_ _) | (with_reducible refine Below.drew ?_) | (with_reducible refine Below.alloc ?_ ?_ _) | (with_reducible refine Below.setCell ?_ ?_ _) | (with_reducible refine Below.trans ?_ (Below.mono (by with_reducible assumption) ?_)) | omega | (simp only [World.size_alloc] at *; omega) | (with_reducible refine Below.size (B := 0) ?_)))⟩

set_option maxRecDepth 100000 in
set_option maxHeartbeats 1600000 in
theorem rmay_bad2 (i m c : V4) (n : Int) (w : World) (h : (goodV c && ratB n) = true) (hi : goodV i = false) :
    Calls Tryd.prog 8 #[.agg #[.int .i64 i.a, .int .i64 i.b, .int .i64 i.c, .int .i64 i.d], .agg #[.int .i64 m.a, .int .i64 m.b, .int .i64 m.c, .int .i64 m.d], .agg #[.int .i64 c.a, .int .i64 c.b, .int .i64 c.c, .int .i64 c.d], .int .i64 n] w fun e w' => e = .returned (.tuple #[.int .i64 ((mayR i m c n).1 : Nat), .int .i64 ((mayR i m c n).2 : Nat)]) ∧ Below w.heap.size w w' := by
  rw [may_add h (by rw [add1_of_bad (.inl hi)]; decide), add1_of_bad (.inl hi)]
  have H1 := Lib.hid (fun W => rgood12_c c n W)
  have H2 := Lib.hid (fun W => rgood_c i W)
  have H3 := Lib.hid (fun W => rgood_c m W)
  rw [h] at H1
  rw [hi] at H2
  clear h hi
  go_enter Tryd.func8, Tryd.ntmps8
  go_wp2_with fail
  refine (H1.out _).mono ?_
  rintro e w2 ⟨rfl, hb2⟩
  have Vi : Vb w2 w.heap.size i := (((Vb.new w i).alloc _).alloc _).step0 hb2
  have Vm : Vb w2 (w.heap.size + 1) m := ((Vb.new_at (by simp) m).alloc _).step0 hb2
  obtain ⟨a0, a1, a2, a3, af, al⟩ := Vi.facts
  go_wp2_with fail
  refine (H2.out _).mono ?_
  rintro e w3 ⟨rfl, hb3⟩
  clear a0 a1 a2 a3 af al Vi
  go_wp2_with fail
  exact bodyPost_ret (v := .tuple #[.int .i64 1, .int .i64 0]) (by simp [results, Tryd.results8, go_sem]) rfl ⟨rfl, by (repeat' (first | (with_reducible exact Below.refl _ _) | (with_reducible refine below_drewN ?_ _) | (with_reducible refine Below.drew ?_) | (with_reducible refine Below.alloc ?_ ?_ _) | (with_reducible refine Below.setCell ?_ ?_ _) | (with_reducible refine Below.trans ?_ (Below.mono (by with_reducible assumption) ?_)) | omega | (simp only [World.size_alloc] at *; omega) | (with_reducible refine Below.size (B := 0) ?_)))⟩

set_option maxRecDepth 100000 in
set_option maxHeartbeats 1600000 in
theorem rmay_bad3 (i m c : V4) (n : Int) (w : World) (h : (goodV c && ratB n) = true) (hi : goodV i = true) (hm : goodV m = false) :
    Calls Tryd.prog 8 #[.agg #[.int .i64 i.a, .int .i64 i.b, .int .i64 i.c, .int .i64 i.d], .agg #[.int .i64 m.a, .int .i64 m.b, .int .i64 m.c, .int .i64 m.d], .agg #[.int .i64 c.a, .int .i64 c.b, .int .i64 c.c, .int .i64 c.d], .int .i64 n] w fun e w' => e = .returned (.tuple #[.int .i64 ((mayR i m c n).1 : Nat), .int .i64 ((mayR i m c n).2 : Nat)]) ∧ Below w.heap.size w w' := by
  rw [may_add h (by rw [add1_of_bad (.inr hm)]; decide), add1_of_bad (.inr hm)]
  have H1 := Lib.hid (fun W => rgood12_c c n W)
  have H2 := Lib.hid (fun W => rgood_c i W)
  have H3 := Lib.hid (fun W => rgood_c m W)
  rw [h] at H1
  rw [hi] at H2
  rw [hm] at H3
  clear h hi hm
  go_enter Tryd.func8, Tryd.ntmps8
  go_wp2_with fail
  refine (H1.out _).mono ?_
  rintro e w2 ⟨rfl, hb2⟩
  have Vi : Vb w2 w.heap.size i := (((Vb.new w i).alloc _).alloc _).step0 hb2
  have Vm : Vb w2 (w.heap.size + 1) m := ((Vb.new_at (by simp) m).alloc _).step0 hb2
  obtain ⟨a0, a1, a2, a3, af, al⟩ := Vi.facts
  go_wp2_with fail
  refine (H2.out _).mono ?_
  rintro e w3 ⟨rfl, hb3⟩
  clear a0 a1 a2 a3 af al Vi
  replace Vm := Vm.step0 hb3
  obtain ⟨a0, a1, a2, a3, af, al⟩ := Vm.facts
  clear Vm
  go_wp2_with fail
  refine (H3.out _).mono ?_
  rintro e w4 ⟨rfl, hb4⟩
  clear a0 a1 a2 a3 af al
  go_wp2_with fail
  exact bodyPost_ret (v := .tuple #[.int .i64 1, .int .i64 0]) (by simp [results, Tryd.results8, go_sem]) rfl ⟨rfl, by (repeat' (first | (with_reducible exact Below.refl _ _) | (with_reducible refine below_drewN ?_ _) | (with_reducible refine Below.drew ?_) | (with_reducible refine Below.alloc ?_ ?_ _) | (with_reducible refine Below.setCell ?_ ?_ _) | (with_reducible refine Below.trans ?_ (Below.mono (by with_reducible assumption) ?_)) | omega | (simp only [World.size_alloc] at *; omega) | (with_reducible refine Below.size (B := 0) ?_)))⟩

set_option maxRecDepth 100000 in
set_option maxHeartbeats 1600000 in
theorem rmay_over (i m c : V4) (n : Int) (w : World) (h : (goodV c && ratB n) = true) (hi : goodV i = true) (hm : goodV m = true) (ha : (addR i m).2 ≠ 0) :
    Calls Tryd.prog 8 #[.agg #[.int .i64 i.a, .int .i64 i.b, .int .i64 i.c, .int .i64 i.d], .agg #[.int .i64 m.a, .int .i64 m.b, .int .i64 m.c, .int .i64 m.d], .agg #[.int .i64 c.a, .int .i64 c.b, .int .i64 c.c, .int .i64 c.d], .int .i64 n] w fun e w' => e = .returned (.tuple #[.int .i64 ((mayR i m c n).1 : Nat), .int .i64 ((mayR i m c n).2 : Nat)]) ∧ Below w.heap.size w w' := by
  rw [may_add h ha]
  have h4 : (addR i m).2 = 4 := (add_two hi hm).resolve_left ha
  have H1 := Lib.hid (fun W => rgood12_c c n W)
  have H2 := Lib.hid (fun W => rgood_c i W)
  have H3 := Lib.hid (fun W => rgood_c m W)
  have H4 := Lib.hid (fun W => radd_c i m W)
  rw [h] at H1
  rw [hi] at H2
  rw [hm] at H3
  rw [h4] at H4 ⊢
  generalize (addR i m).1 = S at H4
  clear h hi hm ha h4
  go_enter Tryd.func8, Tryd.ntmps8
  go_wp2_with fail
  refine (H1.out _).mono ?_
  rintro e w2 ⟨rfl, hb2⟩
  have Vi : Vb w2 w.heap.size i := (((Vb.new w i).alloc _).alloc _).step0 hb2
  have Vm : Vb w2 (w.heap.size + 1) m := ((Vb.new_at (by simp) m).alloc _).step0 hb2
  have Vc : Vb w2 (w.heap.size + 1 + 1) c := (Vb.new_at (by simp) c).step0 hb2
  obtain ⟨a0, a1, a2, a3, af, al⟩ := Vi.facts
  go_wp2_with fail
  refine (H2.out _).mono ?_
  rintro e w3 ⟨rfl, hb3⟩
  clear a0 a1 a2 a3 af al
  replace Vi := Vi.step0 hb3
  replace Vm := Vm.step0 hb3
  replace Vc := Vc.step0 hb3
  obtain ⟨a0, a1, a2, a3, af, al⟩ := Vm.facts
  go_wp2_with fail
  refine (H3.out _).mono ?_
  rintro e w4 ⟨rfl, hb4⟩
  clear a0 a1 a2 a3 af al
  replace Vi := Vi.step0 hb4
  replace Vm := Vm.step0 hb4
  replace Vc := Vc.step0 hb4
  obtain ⟨a0, a1, a2, a3, af, al⟩ := Vi.facts
  obtain ⟨c0, c1, c2, c3, cf, cl⟩ := Vm.facts
  go_wp2_with fail
  refine (H4.out _).mono ?_
  rintro e w5 ⟨rfl, hb5⟩
  clear a0 a1 a2 a3 af al c0 c1 c2 c3 cf cl Vi
  clear Vm Vc
  go_wp2_with fail
  exact bodyPost_ret (v := .tuple #[.int .i64 4, .int .i64 0]) (by simp [results, Tryd.results8, go_sem]) rfl ⟨rfl, by (repeat' (first | (with_reducible exact Below.refl _ _) | (with_reducible refine below_drewN ?_ _) | (with_reducible refine Below.drew ?_) | (with_reducible refine Below.alloc ?_ ?_ _) | (with_reducible refine Below.setCell ?_ ?_ _) | (with_reducible refine Below.trans ?_ (Below.mono (by with_reducible assumption) ?_)) | omega | (simp only [World.size_alloc] at *; omega) | (with_reducible refine Below.size (B := 0) ?_)))⟩

set_option maxRecDepth 100000 in
set_option maxHeartbeats 1600000 in
theorem rmay_good (i m c : V4) (n : Int) (w : World) (h : (goodV c && ratB n) = true) (hi : goodV i = true) (hm : goodV m = true) (ha : (addR i m).2 = 0) :
    Calls Tryd.prog 8 #[.agg #[.int .i64 i.a, .int .i64 i.b, .int .i64 i.c, .int .i64 i.d], .agg #[.int .i64 m.a, .int .i64 m.b, .int .i64 m.c, .int .i64 m.d], .agg #[.int .i64 c.a, .int .i64 c.b, .int .i64 c.c, .int .i64 c.d], .int .i64 n] w fun e w' => e = .returned (.tuple #[.int .i64 ((mayR i m c n).1 : Nat), .int .i64 ((mayR i m c n).2 : Nat)]) ∧ Below w.heap.size w w' := by
  rw [may_ok h ha]
  have H1 := Lib.hid (fun W => rgood12_c c n W)
  have H2 := Lib.hid (fun W => rgood_c i W)
  have H3 := Lib.hid (fun W => rgood_c m W)
  have H4 := Lib.hid (fun W => radd_c i m W)
  have H5 := Lib.hid (fun W => rtop_c c n W (Bool.and_eq_true_iff.1 h).1 (Bool.and_eq_true_iff.1 h).2)
  rw [h] at H1
  rw [hi] at H2
  rw [hm] at H3
  rw [ha] at H4
  generalize (addR i m).1 = S at H4 ⊢
  generalize topV c n = T at H5 ⊢
  obtain ⟨R, hR⟩ : ∃ R, (if firstB m S T < 4 then (9, firstB m S T) else (0, 0)) = R := ⟨_, rfl⟩
  have HR := Lib.hid hR
  have GM := Lib.hid ((good_iff m).1 hm)
  rw [hR]
  clear h hi hm ha hR
  go_enter Tryd.func8, Tryd.ntmps8
  go_wp2_with fail
  refine (H1.out _).mono ?_
  rintro e w2 ⟨rfl, hb2⟩
  have Vi : Vb w2 w.heap.size i := (((Vb.new w i).alloc _).alloc _).step0 hb2
  have Vm : Vb w2 (w.heap.size + 1) m := ((Vb.new_at (by simp) m).alloc _).step0 hb2
  have Vc : Vb w2 (w.heap.size + 1 + 1) c := (Vb.new_at (by simp) c).step0 hb2
  obtain ⟨a0, a1, a2, a3, af, al⟩ := Vi.facts
  go_wp2_with fail
  refine (H2.out _).mono ?_
  rintro e w3 ⟨rfl, hb3⟩
  clear a0 a1 a2 a3 af al
  replace Vi := Vi.step0 hb3
  replace Vm := Vm.step0 hb3
  replace Vc := Vc.step0 hb3
  obtain ⟨a0, a1, a2, a3, af, al⟩ := Vm.facts
  go_wp2_with fail
  refine (H3.out _).mono ?_
  rintro e w4 ⟨rfl, hb4⟩
  clear a0 a1 a2 a3 af al
  replace Vi := Vi.step0 hb4
  replace Vm := Vm.step0 hb4
  replace Vc := Vc.step0 hb4
  obtain ⟨a0, a1, a2, a3, af, al⟩ := Vi.facts
  obtain ⟨c0, c1, c2, c3, cf, cl⟩ := Vm.facts
  go_wp2_with fail
  refine (H4.out _).mono ?_
  rintro e w5 ⟨rfl, hb5⟩
  clear a0 a1 a2 a3 af al c0 c1 c2 c3 cf cl Vi
  replace Vm := Vm.step0 hb5
  replace Vc := Vc.step0 hb5
  obtain ⟨c0, c1, c2, c3, cf, cl⟩ := Vc.facts
  go_wp2_with fail
  refine (H5.out _).mono ?_
  rintro e w6 ⟨rfl, hb6⟩
  clear c0 c1 c2 c3 cf cl Vc
  go_wp2_with fail
  replace Vm := (Vm.step hb6).alloc (.cells #[.int .i64 T.a, .int .i64 T.b, .int .i64 T.c, .int .i64 T.d] 23)
  have Vs := (Vb.fresh S hb6).alloc (.cells #[.int .i64 T.a, .int .i64 T.b, .int .i64 T.c, .int .i64 T.d] 23)
  have Vt := Vb.new w6 T
  have K6 : Below w.heap.size w (w6.alloc (.cells #[.int .i64 T.a, .int .i64 T.b, .int .i64 T.c, .int .i64 T.d] 23)) := by (repeat' (first | (with_reducible exact Below.refl _ _) | (with_reducible refine below_drewN ?_ _) | (with_reducible refine Below.drew ?_) | (with_reducible refine Below.alloc ?_ ?_ _) | (with_reducible refine Below.setCell ?_ ?_ _) | (with_reducible refine Below.trans ?_ (Below.mono (by with_reducible assumption) ?_)) | omega | (simp only [World.size_alloc] at *; omega) | (with_reducible refine Below.size (B := 0) ?_)))
  generalize w6.alloc (.cells #[.int .i64 T.a, .int .i64 T.b, .int .i64 T.c, .int .i64 T.d] 23) = W7 at *
  obtain ⟨c0, c1, c2, c3, cf, cl⟩ := Vm.facts
  obtain ⟨t0, t1, t2, t3, tf, tl⟩ := Vs.facts
  obtain ⟨u0, u1, u2, u3, uf, ul⟩ := Vt.facts
  have KH := Lib.hid K6
  clear Vm Vs Vt hb2 hb3 hb4 hb5 hb6 K6 H1 H2 H3 H4 H5
  obtain ⟨m0, m1, m2, m3⟩ := m
  obtain ⟨T0, T1, T2, T3⟩ := T
  obtain ⟨S0, S1, S2, S3⟩ := S
  simp only at c0 c1 c2 c3 t0 t1 t2 t3 u0 u1 u2 u3
  have G0 : 0 ≤ m0 := GM.out.1.1
  have G1 : 0 ≤ m1 := GM.out.2.1.1
  have G2 : 0 ≤ m2 := GM.out.2.2.1.1
  have G3 : 0 ≤ m3 := GM.out.2.2.2.1
  clear GM
  refine wp_loop_rounds 5 ?_
  rw [rounds_succ]
  go_wp2_with fail
  cases e0 : decide (m0 > 0)
  · go_quiet (fail)
    go_wp2_with fail
    rw [rounds_succ]
    go_wp2_with fail
    cases e1 : decide (m1 > 0)
    · go_quiet (fail)
      go_wp2_with fail
      rw [rounds_succ]
      go_wp2_with fail
      cases e2 : decide (m2 > 0)
      · go_quiet (fail)
        go_wp2_with fail
        rw [rounds_succ]
        go_wp2_with fail
        cases e3 : decide (m3 > 0)
        · go_quiet (fail)
          go_wp2_with fail
          rw [rounds_succ]
          go_wp2_with fail
          rw [rmay_end4 HR.out (first4 (no_m G0 e0) (no_m G1 e1) (no_m G2 e2) (no_m G3 e3))]
          exact bodyPost_ret (v := .tuple #[.int .i64 0, .int .i64 0]) (by simp [results, Tryd.results8, go_sem]) rfl ⟨rfl, KH.out.trans (Below.mono (B := W7.heap.size) (by (repeat' (first | (with_reducible exact Below.refl _ _) | (with_reducible refine below_drewN ?_ _) | (with_reducible refine Below.drew ?_) | (with_reducible refine Below.alloc ?_ ?_ _) | (with_reducible refine Below.setCell ?_ ?_ _) | (with_reducible refine Below.trans ?_ (Below.mono (by with_reducible assumption) ?_)) | omega | (simp only [World.size_alloc, World.size_setCell, World.size_drew, Go.Proofs.YtmimlniofhngjaaDoor.World.size_drewN] at *; omega) | (with_reducible refine Below.size (B := 0) ?_)))) (by have := KH.out.size; omega))⟩
        · cases f3 : decide (S3 > T3)
          · go_quiet (fail)
            go_wp2_with fail
            rw [rounds_succ]
            go_wp2_with fail
            rw [rmay_end4 HR.out (first4 (no_m G0 e0) (no_m G1 e1) (no_m G2 e2) (no_s f3))]
            exact bodyPost_ret (v := .tuple #[.int .i64 0, .int .i64 0]) (by simp [results, Tryd.results8, go_sem]) rfl ⟨rfl, KH.out.trans (Below.mono (B := W7.heap.size) (by (repeat' (first | (with_reducible exact Below.refl _ _) | (with_reducible refine below_drewN ?_ _) | (with_reducible refine Below.drew ?_) | (with_reducible refine Below.alloc ?_ ?_ _) | (with_reducible refine Below.setCell ?_ ?_ _) | (with_reducible refine Below.trans ?_ (Below.mono (by with_reducible assumption) ?_)) | omega | (simp only [World.size_alloc, World.size_setCell, World.size_drew, Go.Proofs.YtmimlniofhngjaaDoor.World.size_drewN] at *; omega) | (with_reducible refine Below.size (B := 0) ?_)))) (by have := KH.out.size; omega))⟩
          · go_quiet (fail)
            go_wp2_with fail
            rw [rmay_endk HR.out (first3 (no_m G0 e0) (no_m G1 e1) (no_m G2 e2) (yes_b e3 f3)) (by decide)]
            exact bodyPost_ret (v := .tuple #[.int .i64 9, .int .i64 3]) (by simp [results, Tryd.results8, go_sem]) rfl ⟨rfl, KH.out.trans (Below.mono (B := W7.heap.size) (by (repeat' (first | (with_reducible exact Below.refl _ _) | (with_reducible refine below_drewN ?_ _) | (with_reducible refine Below.drew ?_) | (with_reducible refine Below.alloc ?_ ?_ _) | (with_reducible refine Below.setCell ?_ ?_ _) | (with_reducible refine Below.trans ?_ (Below.mono (by with_reducible assumption) ?_)) | omega | (simp only [World.size_alloc, World.size_setCell, World.size_drew, Go.Proofs.YtmimlniofhngjaaDoor.World.size_drewN] at *; omega) | (with_reducible refine Below.size (B := 0) ?_)))) (by have := KH.out.size; omega))⟩
      · cases f2 : decide (S2 > T2)
        · go_quiet (fail)
          go_wp2_with fail
          rw [rounds_succ]
          go_wp2_with fail
          cases e3 : decide (m3 > 0)
          · go_quiet (fail)
            go_wp2_with fail
            rw [rounds_succ]
            go_wp2_with fail
            rw [rmay_end4 HR.out (first4 (no_m G0 e0) (no_m G1 e1) (no_s f2) (no_m G3 e3))]
            exact bodyPost_ret (v := .tuple #[.int .i64 0, .int .i64 0]) (by simp [results, Tryd.results8, go_sem]) rfl ⟨rfl, KH.out.trans (Below.mono (B := W7.heap.size) (by (repeat' (first | (with_reducible exact Below.refl _ _) | (with_reducible refine below_drewN ?_ _) | (with_reducible refine Below.drew ?_) | (with_reducible refine Below.alloc ?_ ?_ _) | (with_reducible refine Below.setCell ?_ ?_ _) | (with_reducible refine Below.trans ?_ (Below.mono (by with_reducible assumption) ?_)) | omega | (simp only [World.size_alloc, World.size_setCell, World.size_drew, Go.Proofs.YtmimlniofhngjaaDoor.World.size_drewN] at *; omega) | (with_reducible refine Below.size (B := 0) ?_)))) (by have := KH.out.size; omega))⟩
          · cases f3 : decide (S3 > T3)
            · go_quiet (fail)
              go_wp2_with fail
              rw [rounds_succ]
              go_wp2_with fail
              rw [rmay_end4 HR.out (first4 (no_m G0 e0) (no_m G1 e1) (no_s f2) (no_s f3))]
              exact bodyPost_ret (v := .tuple #[.int .i64 0, .int .i64 0]) (by simp [results, Tryd.results8, go_sem]) rfl ⟨rfl, KH.out.trans (Below.mono (B := W7.heap.size) (by (repeat' (first | (with_reducible exact Below.refl _ _) | (with_reducible refine below_drewN ?_ _) | (with_reducible refine Below.drew ?_) | (with_reducible refine Below.alloc ?_ ?_ _) | (with_reducible refine Below.setCell ?_ ?_ _) | (with_reducible refine Below.trans ?_ (Below.mono (by with_reducible assumption) ?_)) | omega | (simp only [World.size_alloc, World.size_setCell, World.size_drew, Go.Proofs.YtmimlniofhngjaaDoor.World.size_drewN] at *; omega) | (with_reducible refine Below.size (B := 0) ?_)))) (by have := KH.out.size; omega))⟩
            · go_quiet (fail)
              go_wp2_with fail
              rw [rmay_endk HR.out (first3 (no_m G0 e0) (no_m G1 e1) (no_s f2) (yes_b e3 f3)) (by decide)]
              exact bodyPost_ret (v := .tuple #[.int .i64 9, .int .i64 3]) (by simp [results, Tryd.results8, go_sem]) rfl ⟨rfl, KH.out.trans (Below.mono (B := W7.heap.size) (by (repeat' (first | (with_reducible exact Below.refl _ _) | (with_reducible refine below_drewN ?_ _) | (with_reducible refine Below.drew ?_) | (with_reducible refine Below.alloc ?_ ?_ _) | (with_reducible refine Below.setCell ?_ ?_ _) | (with_reducible refine Below.trans ?_ (Below.mono (by with_reducible assumption) ?_)) | omega | (simp only [World.size_alloc, World.size_setCell, World.size_drew, Go.Proofs.YtmimlniofhngjaaDoor.World.size_drewN] at *; omega) | (with_reducible refine Below.size (B := 0) ?_)))) (by have := KH.out.size; omega))⟩
        · go_quiet (fail)
          go_wp2_with fail
          rw [rmay_endk HR.out (first2 (no_m G0 e0) (no_m G1 e1) (yes_b e2 f2)) (by decide)]
          exact bodyPost_ret (v := .tuple #[.int .i64 9, .int .i64 2]) (by simp [results, Tryd.results8, go_sem]) rfl ⟨rfl, KH.out.trans (Below.mono (B := W7.heap.size) (by (repeat' (first | (with_reducible exact Below.refl _ _) | (with_reducible refine below_drewN ?_ _) | (with_reducible refine Below.drew ?_) | (with_reducible refine Below.alloc ?_ ?_ _) | (with_reducible refine Below.setCell ?_ ?_ _) | (with_reducible refine Below.trans ?_ (Below.mono (by with_reducible assumption) ?_)) | omega | (simp only [World.size_alloc, World.size_setCell, World.size_drew, Go.Proofs.YtmimlniofhngjaaDoor.World.size_drewN] at *; omega) | (with_reducible refine Below.size (B := 0) ?_)))) (by have := KH.out.size; omega))⟩
    · cases f1 : decide (S1 > T1)
      · go_quiet (fail)
        go_wp2_with fail
        rw [rounds_succ]
        go_wp2_with fail
        cases e2 : decide (m2 > 0)
        · go_quiet (fail)
          go_wp2_with fail
          rw [rounds_succ]
          go_wp2_with fail
          cases e3 : decide (m3 > 0)
          · go_quiet (fail)
            go_wp2_with fail
            rw [rounds_succ]
            go_wp2_with fail
            rw [rmay_end4 HR.out (first4 (no_m G0 e0) (no_s f1) (no_m G2 e2) (no_m G3 e3))]
            exact bodyPost_ret (v := .tuple #[.int .i64 0, .int .i64 0]) (by simp [results, Tryd.results8, go_sem]) rfl ⟨rfl, KH.out.trans (Below.mono (B := W7.heap.size) (by (repeat' (first | (with_reducible exact Below.refl _ _) | (with_reducible refine below_drewN ?_ _) | (with_reducible refine Below.drew ?_) | (with_reducible refine Below.alloc ?_ ?_ _) | (with_reducible refine Below.setCell ?_ ?_ _) | (with_reducible refine Below.trans ?_ (Below.mono (by with_reducible assumption) ?_)) | omega | (simp only [World.size_alloc, World.size_setCell, World.size_drew, Go.Proofs.YtmimlniofhngjaaDoor.World.size_drewN] at *; omega) | (with_reducible refine Below.size (B := 0) ?_)))) (by have := KH.out.size; omega))⟩
          · cases f3 : decide (S3 > T3)
            · go_quiet (fail)
              go_wp2_with fail
              rw [rounds_succ]
              go_wp2_with fail
              rw [rmay_end4 HR.out (first4 (no_m G0 e0) (no_s f1) (no_m G2 e2) (no_s f3))]
              exact bodyPost_ret (v := .tuple #[.int .i64 0, .int .i64 0]) (by simp [results, Tryd.results8, go_sem]) rfl ⟨rfl, KH.out.trans (Below.mono (B := W7.heap.size) (by (repeat' (first | (with_reducible exact Below.refl _ _) | (with_reducible refine below_drewN ?_ _) | (with_reducible refine Below.drew ?_) | (with_reducible refine Below.alloc ?_ ?_ _) | (with_reducible refine Below.setCell ?_ ?_ _) | (with_reducible refine Below.trans ?_ (Below.mono (by with_reducible assumption) ?_)) | omega | (simp only [World.size_alloc, World.size_setCell, World.size_drew, Go.Proofs.YtmimlniofhngjaaDoor.World.size_drewN] at *; omega) | (with_reducible refine Below.size (B := 0) ?_)))) (by have := KH.out.size; omega))⟩
            · go_quiet (fail)
              go_wp2_with fail
              rw [rmay_endk HR.out (first3 (no_m G0 e0) (no_s f1) (no_m G2 e2) (yes_b e3 f3)) (by decide)]
              exact bodyPost_ret (v := .tuple #[.int .i64 9, .int .i64 3]) (by simp [results, Tryd.results8, go_sem]) rfl ⟨rfl, KH.out.trans (Below.mono (B := W7.heap.size) (by (repeat' (first | (with_reducible exact Below.refl _ _) | (with_reducible refine below_drewN ?_ _) | (with_reducible refine Below.drew ?_) | (with_reducible refine Below.alloc ?_ ?_ _) | (with_reducible refine Below.setCell ?_ ?_ _) | (with_reducible refine Below.trans ?_ (Below.mono (by with_reducible assumption) ?_)) | omega | (simp only [World.size_alloc, World.size_setCell, World.size_drew, Go.Proofs.YtmimlniofhngjaaDoor.World.size_drewN] at *; omega) | (with_reducible refine Below.size (B := 0) ?_)))) (by have := KH.out.size; omega))⟩
        · cases f2 : decide (S2 > T2)
          · go_quiet (fail)
            go_wp2_with fail
            rw [rounds_succ]
            go_wp2_with fail
            cases e3 : decide (m3 > 0)
            · go_quiet (fail)
              go_wp2_with fail
              rw [rounds_succ]
              go_wp2_with fail
              rw [rmay_end4 HR.out (first4 (no_m G0 e0) (no_s f1) (no_s f2) (no_m G3 e3))]
              exact bodyPost_ret (v := .tuple #[.int .i64 0, .int .i64 0]) (by simp [results, Tryd.results8, go_sem]) rfl ⟨rfl, KH.out.trans (Below.mono (B := W7.heap.size) (by (repeat' (first | (with_reducible exact Below.refl _ _) | (with_reducible refine below_drewN ?_ _) | (with_reducible refine Below.drew ?_) | (with_reducible refine Below.alloc ?_ ?_ _) | (with_reducible refine Below.setCell ?_ ?_ _) | (with_reducible refine Below.trans ?_ (Below.mono (by with_reducible assumption) ?_)) | omega | (simp only [World.size_alloc, World.size_setCell, World.size_drew, Go.Proofs.YtmimlniofhngjaaDoor.World.size_drewN] at *; omega) | (with_reducible refine Below.size (B := 0) ?_)))) (by have := KH.out.size; omega))⟩
            · cases f3 : decide (S3 > T3)
              · go_quiet (fail)
                go_wp2_with fail
                rw [rounds_succ]
                go_wp2_with fail
                rw [rmay_end4 HR.out (first4 (no_m G0 e0) (no_s f1) (no_s f2) (no_s f3))]
                exact bodyPost_ret (v := .tuple #[.int .i64 0, .int .i64 0]) (by simp [results, Tryd.results8, go_sem]) rfl ⟨rfl, KH.out.trans (Below.mono (B := W7.heap.size) (by (repeat' (first | (with_reducible exact Below.refl _ _) | (with_reducible refine below_drewN ?_ _) | (with_reducible refine Below.drew ?_) | (with_reducible refine Below.alloc ?_ ?_ _) | (with_reducible refine Below.setCell ?_ ?_ _) | (with_reducible refine Below.trans ?_ (Below.mono (by with_reducible assumption) ?_)) | omega | (simp only [World.size_alloc, World.size_setCell, World.size_drew, Go.Proofs.YtmimlniofhngjaaDoor.World.size_drewN] at *; omega) | (with_reducible refine Below.size (B := 0) ?_)))) (by have := KH.out.size; omega))⟩
              · go_quiet (fail)
                go_wp2_with fail
                rw [rmay_endk HR.out (first3 (no_m G0 e0) (no_s f1) (no_s f2) (yes_b e3 f3)) (by decide)]
                exact bodyPost_ret (v := .tuple #[.int .i64 9, .int .i64 3]) (by simp [results, Tryd.results8, go_sem]) rfl ⟨rfl, KH.out.trans (Below.mono (B := W7.heap.size) (by (repeat' (first | (with_reducible exact Below.refl _ _) | (with_reducible refine below_drewN ?_ _) | (with_reducible refine Below.drew ?_) | (with_reducible refine Below.alloc ?_ ?_ _) | (with_reducible refine Below.setCell ?_ ?_ _) | (with_reducible refine Below.trans ?_ (Below.mono (by with_reducible assumption) ?_)) | omega | (simp only [World.size_alloc, World.size_setCell, World.size_drew, Go.Proofs.YtmimlniofhngjaaDoor.World.size_drewN] at *; omega) | (with_reducible refine Below.size (B := 0) ?_)))) (by have := KH.out.size; omega))⟩
          · go_quiet (fail)
            go_wp2_with fail
            rw [rmay_endk HR.out (first2 (no_m G0 e0) (no_s f1) (yes_b e2 f2)) (by decide)]
            exact bodyPost_ret (v := .tuple #[.int .i64 9, .int .i64 2]) (by simp [results, Tryd.results8, go_sem]) rfl ⟨rfl, KH.out.trans (Below.mono (B := W7.heap.size) (by (repeat' (first | (with_reducible exact Below.refl _ _) | (with_reducible refine below_drewN ?_ _) | (with_reducible refine Below.drew ?_) | (with_reducible refine Below.alloc ?_ ?_ _) | (with_reducible refine Below.setCell ?_ ?_ _) | (with_reducible refine Below.trans ?_ (Below.mono (by with_reducible assumption) ?_)) | omega | (simp only [World.size_alloc, World.size_setCell, World.size_drew, Go.Proofs.YtmimlniofhngjaaDoor.World.size_drewN] at *; omega) | (with_reducible refine Below.size (B := 0) ?_)))) (by have := KH.out.size; omega))⟩
      · go_quiet (fail)
        go_wp2_with fail
        rw [rmay_endk HR.out (first1 (no_m G0 e0) (yes_b e1 f1)) (by decide)]
        exact bodyPost_ret (v := .tuple #[.int .i64 9, .int .i64 1]) (by simp [results, Tryd.results8, go_sem]) rfl ⟨rfl, KH.out.trans (Below.mono (B := W7.heap.size) (by (repeat' (first | (with_reducible exact Below.refl _ _) | (with_reducible refine below_drewN ?_ _) | (with_reducible refine Below.drew ?_) | (with_reducible refine Below.alloc ?_ ?_ _) | (with_reducible refine Below.setCell ?_ ?_ _) | (with_reducible refine Below.trans ?_ (Below.mono (by with_reducible assumption) ?_)) | omega | (simp only [World.size_alloc, World.size_setCell, World.size_drew, Go.Proofs.YtmimlniofhngjaaDoor.World.size_drewN] at *; omega) | (with_reducible refine Below.size (B := 0) ?_)))) (by have := KH.out.size; omega))⟩
  · cases f0 : decide (S0 > T0)
    · go_quiet (fail)
      go_wp2_with fail
      rw [rounds_succ]
      go_wp2_with fail
      cases e1 : decide (m1 > 0)
      · go_quiet (fail)
        go_wp2_with fail
        rw [rounds_succ]
        go_wp2_with fail
        cases e2 : decide (m2 > 0)
        · go_quiet (fail)
          go_wp2_with fail
          rw [rounds_succ]
          go_wp2_with fail
          cases e3 : decide (m3 > 0)
          · go_quiet (fail)
            go_wp2_with fail
            rw [rounds_succ]
            go_wp2_with fail
            rw [rmay_end4 HR.out (first4 (no_s f0) (no_m G1 e1) (no_m G2 e2) (no_m G3 e3))]
            exact bodyPost_ret (v := .tuple #[.int .i64 0, .int .i64 0]) (by simp [results, Tryd.results8, go_sem]) rfl ⟨rfl, KH.out.trans (Below.mono (B := W7.heap.size) (by (repeat' (first | (with_reducible exact Below.refl _ _) | (with_reducible refine below_drewN ?_ _) | (with_reducible refine Below.drew ?_) | (with_reducible refine Below.alloc ?_ ?_ _) | (with_reducible refine Below.setCell ?_ ?_ _) | (with_reducible refine Below.trans ?_ (Below.mono (by with_reducible assumption) ?_)) | omega | (simp only [World.size_alloc, World.size_setCell, World.size_drew, Go.Proofs.YtmimlniofhngjaaDoor.World.size_drewN] at *; omega) | (with_reducible refine Below.size (B := 0) ?_)))) (by have := KH.out.size; omega))⟩
          · cases f3 : decide (S3 > T3)
            · go_quiet (fail)
              go_wp2_with fail
              rw [rounds_succ]
              go_wp2_with fail
              rw [rmay_end4 HR.out (first4 (no_s f0) (no_m G1 e1) (no_m G2 e2) (no_s f3))]
              exact bodyPost_ret (v := .tuple #[.int .i64 0, .int .i64 0]) (by simp [results, Tryd.results8, go_sem]) rfl ⟨rfl, KH.out.trans (Below.mono (B := W7.heap.size) (by (repeat' (first | (with_reducible exact Below.refl _ _) | (with_reducible refine below_drewN ?_ _) | (with_reducible refine Below.drew ?_) | (with_reducible refine Below.alloc ?_ ?_ _) | (with_reducible refine Below.setCell ?_ ?_ _) | (with_reducible refine Below.trans ?_ (Below.mono (by with_reducible assumption) ?_)) | omega | (simp only [World.size_alloc, World.size_setCell, World.size_drew, Go.Proofs.YtmimlniofhngjaaDoor.World.size_drewN] at *; omega) | (with_reducible refine Below.size (B := 0) ?_)))) (by have := KH.out.size; omega))⟩
            · go_quiet (fail)
              go_wp2_with fail
              rw [rmay_endk HR.out (first3 (no_s f0) (no_m G1 e1) (no_m G2 e2) (yes_b e3 f3)) (by decide)]
              exact bodyPost_ret (v := .tuple #[.int .i64 9, .int .i64 3]) (by simp [results, Tryd.results8, go_sem]) rfl ⟨rfl, KH.out.trans (Below.mono (B := W7.heap.size) (by (repeat' (first | (with_reducible exact Below.refl _ _) | (with_reducible refine below_drewN ?_ _) | (with_reducible refine Below.drew ?_) | (with_reducible refine Below.alloc ?_ ?_ _) | (with_reducible refine Below.setCell ?_ ?_ _) | (with_reducible refine Below.trans ?_ (Below.mono (by with_reducible assumption) ?_)) | omega | (simp only [World.size_alloc, World.size_setCell, World.size_drew, Go.Proofs.YtmimlniofhngjaaDoor.World.size_drewN] at *; omega) | (with_reducible refine Below.size (B := 0) ?_)))) (by have := KH.out.size; omega))⟩
        · cases f2 : decide (S2 > T2)
          · go_quiet (fail)
            go_wp2_with fail
            rw [rounds_succ]
            go_wp2_with fail
            cases e3 : decide (m3 > 0)
            · go_quiet (fail)
              go_wp2_with fail
              rw [rounds_succ]
              go_wp2_with fail
              rw [rmay_end4 HR.out (first4 (no_s f0) (no_m G1 e1) (no_s f2) (no_m G3 e3))]
              exact bodyPost_ret (v := .tuple #[.int .i64 0, .int .i64 0]) (by simp [results, Tryd.results8, go_sem]) rfl ⟨rfl, KH.out.trans (Below.mono (B := W7.heap.size) (by (repeat' (first | (with_reducible exact Below.refl _ _) | (with_reducible refine below_drewN ?_ _) | (with_reducible refine Below.drew ?_) | (with_reducible refine Below.alloc ?_ ?_ _) | (with_reducible refine Below.setCell ?_ ?_ _) | (with_reducible refine Below.trans ?_ (Below.mono (by with_reducible assumption) ?_)) | omega | (simp only [World.size_alloc, World.size_setCell, World.size_drew, Go.Proofs.YtmimlniofhngjaaDoor.World.size_drewN] at *; omega) | (with_reducible refine Below.size (B := 0) ?_)))) (by have := KH.out.size; omega))⟩
            · cases f3 : decide (S3 > T3)
              · go_quiet (fail)
                go_wp2_with fail
                rw [rounds_succ]
                go_wp2_with fail
                rw [rmay_end4 HR.out (first4 (no_s f0) (no_m G1 e1) (no_s f2) (no_s f3))]
                exact bodyPost_ret (v := .tuple #[.int .i64 0, .int .i64 0]) (by simp [results, Tryd.results8, go_sem]) rfl ⟨rfl, KH.out.trans (Below.mono (B := W7.heap.size) (by (repeat' (first | (with_reducible exact Below.refl _ _) | (with_reducible refine below_drewN ?_ _) | (with_reducible refine Below.drew ?_) | (with_reducible refine Below.alloc ?_ ?_ _) | (with_reducible refine Below.setCell ?_ ?_ _) | (with_reducible refine Below.trans ?_ (Below.mono (by with_reducible assumption) ?_)) | omega | (simp only [World.size_alloc, World.size_setCell, World.size_drew, Go.Proofs.YtmimlniofhngjaaDoor.World.size_drewN] at *; omega) | (with_reducible refine Below.size (B := 0) ?_)))) (by have := KH.out.size; omega))⟩
              · go_quiet (fail)
                go_wp2_with fail
                rw [rmay_endk HR.out (first3 (no_s f0) (no_m G1 e1) (no_s f2) (yes_b e3 f3)) (by decide)]
                exact bodyPost_ret (v := .tuple #[.int .i64 9, .int .i64 3]) (by simp [results, Tryd.results8, go_sem]) rfl ⟨rfl, KH.out.trans (Below.mono (B := W7.heap.size) (by (repeat' (first | (with_reducible exact Below.refl _ _) | (with_reducible refine below_drewN ?_ _) | (with_reducible refine Below.drew ?_) | (with_reducible refine Below.alloc ?_ ?_ _) | (with_reducible refine Below.setCell ?_ ?_ _) | (with_reducible refine Below.trans ?_ (Below.mono (by with_reducible assumption) ?_)) | omega | (simp only [World.size_alloc, World.size_setCell, World.size_drew, Go.Proofs.YtmimlniofhngjaaDoor.World.size_drewN] at *; omega) | (with_reducible refine Below.size (B := 0) ?_)))) (by have := KH.out.size; omega))⟩
          · go_quiet (fail)
            go_wp2_with fail
            rw [rmay_endk HR.out (first2 (no_s f0) (no_m G1 e1) (yes_b e2 f2)) (by decide)]
            exact bodyPost_ret (v := .tuple #[.int .i64 9, .int .i64 2]) (by simp [results, Tryd.results8, go_sem]) rfl ⟨rfl, KH.out.trans (Below.mono (B := W7.heap.size) (by (repeat' (first | (with_reducible exact Below.refl _ _) | (with_reducible refine below_drewN ?_ _) | (with_reducible refine Below.drew ?_) | (with_reducible refine Below.alloc ?_ ?_ _) | (with_reducible refine Below.setCell ?_ ?_ _) | (with_reducible refine Below.trans ?_ (Below.mono (by with_reducible assumption) ?_)) | omega | (simp only [World.size_alloc, World.size_setCell, World.size_drew, Go.Proofs.YtmimlniofhngjaaDoor.World.size_drewN] at *; omega) | (with_reducible refine Below.size (B := 0) ?_)))) (by have := KH.out.size; omega))⟩
      · cases f1 : decide (S1 > T1)
        · go_quiet (fail)
          go_wp2_with fail
          rw [rounds_succ]
          go_wp2_with fail
          cases e2 : decide (m2 > 0)
          · go_quiet (fail)
            go_wp2_with fail
            rw [rounds_succ]
            go_wp2_with fail
            cases e3 : decide (m3 > 0)
            · go_quiet (fail)
              go_wp2_with fail
              rw [rounds_succ]
              go_wp2_with fail
              rw [rmay_end4 HR.out (first4 (no_s f0) (no_s f1) (no_m G2 e2) (no_m G3 e3))]
              exact bodyPost_ret (v := .tuple #[.int .i64 0, .int .i64 0]) (by simp [results, Tryd.results8, go_sem]) rfl ⟨rfl, KH.out.trans (Below.mono (B := W7.heap.size) (by (repeat' (first | (with_reducible exact Below.refl _ _) | (with_reducible refine below_drewN ?_ _) | (with_reducible refine Below.drew ?_) | (with_reducible refine Below.alloc ?_ ?_ _) | (with_reducible refine Below.setCell ?_ ?_ _) | (with_reducible refine Below.trans ?_ (Below.mono (by with_reducible assumption) ?_)) | omega | (simp only [World.size_alloc, World.size_setCell, World.size_drew, Go.Proofs.YtmimlniofhngjaaDoor.World.size_drewN] at *; omega) | (with_reducible refine Below.size (B := 0) ?_)))) (by have := KH.out.size; omega))⟩
            · cases f3 : decide (S3 > T3)
              · go_quiet (fail)
                go_wp2_with fail
                rw [rounds_succ]
                go_wp2_with fail
                rw [rmay_end4 HR.out (first4 (no_s f0) (no_s f1) (no_m G2 e2) (no_s f3))]
                exact bodyPost_ret (v := .tuple #[.int .i64 0, .int .i64 0]) (by simp [results, Tryd.results8, go_sem]) rfl ⟨rfl, KH.out.trans (Below.mono (B := W7.heap.size) (by (repeat' (first | (with_reducible exact Below.refl _ _) | (with_reducible refine below_drewN ?_ _) | (with_reducible refine Below.drew ?_) | (with_reducible refine Below.alloc ?_ ?_ _) | (with_reducible refine Below.setCell ?_ ?_ _) | (with_reducible refine Below.trans ?_ (Below.mono (by with_reducible assumption) ?_)) | omega | (simp only [World.size_alloc, World.size_setCell, World.size_drew, Go.Proofs.YtmimlniofhngjaaDoor.World.size_drewN] at *; omega) | (with_reducible refine Below.size (B := 0) ?_)))) (by have := KH.out.size; omega))⟩
              · go_quiet (fail)
                go_wp2_with fail
                rw [rmay_endk HR.out (first3 (no_s f0) (no_s f1) (no_m G2 e2) (yes_b e3 f3)) (by decide)]
                exact bodyPost_ret (v := .tuple #[.int .i64 9, .int .i64 3]) (by simp [results, Tryd.results8, go_sem]) rfl ⟨rfl, KH.out.trans (Below.mono (B := W7.heap.size) (by (repeat' (first | (with_reducible exact Below.refl _ _) | (with_reducible refine below_drewN ?_ _) | (with_reducible refine Below.drew ?_) | (with_reducible refine Below.alloc ?_ ?_ _) | (with_reducible refine Below.setCell ?_ ?_ _) | (with_reducible refine Below.trans ?_ (Below.mono (by with_reducible assumption) ?_)) | omega | (simp only [World.size_alloc, World.size_setCell, World.size_drew, Go.Proofs.YtmimlniofhngjaaDoor.World.size_drewN] at *; omega) | (with_reducible refine Below.size (B := 0) ?_)))) (by have := KH.out.size; omega))⟩
          · cases f2 : decide (S2 > T2)
            · go_quiet (fail)
              go_wp2_with fail
              rw [rounds_succ]
              go_wp2_with fail
              cases e3 : decide (m3 > 0)
              · go_quiet (fail)
                go_wp2_with fail
                rw [rounds_succ]
                go_wp2_with fail
                rw [rmay_end4 HR.out (first4 (no_s f0) (no_s f1) (no_s f2) (no_m G3 e3))]
                exact bodyPost_ret (v := .tuple #[.int .i64 0, .int .i64 0]) (by simp [results, Tryd.results8, go_sem]) rfl ⟨rfl, KH.out.trans (Below.mono (B := W7.heap.size) (by (repeat' (first | (with_reducible exact Below.refl _ _) | (with_reducible refine below_drewN ?_ _) | (with_reducible refine Below.drew ?_) | (with_reducible refine Below.alloc ?_ ?_ _) | (with_reducible refine Below.setCell ?_ ?_ _) | (with_reducible refine Below.trans ?_ (Below.mono (by with_reducible assumption) ?_)) | omega | (simp only [World.size_alloc, World.size_setCell, World.size_drew, Go.Proofs.YtmimlniofhngjaaDoor.World.size_drewN] at *; omega) | (with_reducible refine Below.size (B := 0) ?_)))) (by have := KH.out.size; omega))⟩
              · cases f3 : decide (S3 > T3)
                · go_quiet (fail)
                  go_wp2_with fail
                  rw [rounds_succ]
                  go_wp2_with fail
                  rw [rmay_end4 HR.out (first4 (no_s f0) (no_s f1) (no_s f2) (no_s f3))]
                  exact bodyPost_ret (v := .tuple #[.int .i64 0, .int .i64 0]) (by simp [results, Tryd.results8, go_sem]) rfl ⟨rfl, KH.out.trans (Below.mono (B := W7.heap.size) (by (repeat' (first | (with_reducible exact Below.refl _ _) | (with_reducible refine below_drewN ?_ _) | (with_reducible refine Below.drew ?_) | (with_reducible refine Below.alloc ?_ ?_ _) | (with_reducible refine Below.setCell ?_ ?_ _) | (with_reducible refine Below.trans ?_ (Below.mono (by with_reducible assumption) ?_)) | omega | (simp only [World.size_alloc, World.size_setCell, World.size_drew, Go.Proofs.YtmimlniofhngjaaDoor.World.size_drewN] at *; omega) | (with_reducible refine Below.size (B := 0) ?_)))) (by have := KH.out.size; omega))⟩
                · go_quiet (fail)
                  go_wp2_with fail
                  rw [rmay_endk HR.out (first3 (no_s f0) (no_s f1) (no_s f2) (yes_b e3 f3)) (by decide)]
                  exact bodyPost_ret (v := .tuple #[.int .i64 9, .int .i64 3]) (by simp [results, Tryd.results8, go_sem]) rfl ⟨rfl, KH.out.trans (Below.mono (B := W7.heap.size) (by (repeat' (first | (with_reducible exact Below.refl _ _) | (with_reducible refine below_drewN ?_ _) | (with_reducible refine Below.drew ?_) | (with_reducible refine Below.alloc ?_ ?_ _) | (with_reducible refine Below.setCell ?_ ?_ _) | (with_reducible refine Below.trans ?_ (Below.mono (by with_reducible assumption) ?_)) | omega | (simp only [World.size_alloc, World.size_setCell, World.size_drew, Go.Proofs.YtmimlniofhngjaaDoor.World.size_drewN] at *; omega) | (with_reducible refine Below.size (B := 0) ?_)))) (by have := KH.out.size; omega))⟩
            · go_quiet (fail)
              go_wp2_with fail
              rw [rmay_endk HR.out (first2 (no_s f0) (no_s f1) (yes_b e2 f2)) (by decide)]
              exact bodyPost_ret (v := .tuple #[.int .i64 9, .int .i64 2]) (by simp [results, Tryd.results8, go_sem]) rfl ⟨rfl, KH.out.trans (Below.mono (B := W7.heap.size) (by (repeat' (first | (with_reducible exact Below.refl _ _) | (with_reducible refine below_drewN ?_ _) | (with_reducible refine Below.drew ?_) | (with_reducible refine Below.alloc ?_ ?_ _) | (with_reducible refine Below.setCell ?_ ?_ _) | (with_reducible refine Below.trans ?_ (Below.mono (by with_reducible assumption) ?_)) | omega | (simp only [World.size_alloc, World.size_setCell, World.size_drew, Go.Proofs.YtmimlniofhngjaaDoor.World.size_drewN] at *; omega) | (with_reducible refine Below.size (B := 0) ?_)))) (by have := KH.out.size; omega))⟩
        · go_quiet (fail)
          go_wp2_with fail
          rw [rmay_endk HR.out (first1 (no_s f0) (yes_b e1 f1)) (by decide)]
          exact bodyPost_ret (v := .tuple #[.int .i64 9, .int .i64 1]) (by simp [results, Tryd.results8, go_sem]) rfl ⟨rfl, KH.out.trans (Below.mono (B := W7.heap.size) (by (repeat' (first | (with_reducible exact Below.refl _ _) | (with_reducible refine below_drewN ?_ _) | (with_reducible refine Below.drew ?_) | (with_reducible refine Below.alloc ?_ ?_ _) | (with_reducible refine Below.setCell ?_ ?_ _) | (with_reducible refine Below.trans ?_ (Below.mono (by with_reducible assumption) ?_)) | omega | (simp only [World.size_alloc, World.size_setCell, World.size_drew, Go.Proofs.YtmimlniofhngjaaDoor.World.size_drewN] at *; omega) | (with_reducible refine Below.size (B := 0) ?_)))) (by have := KH.out.size; omega))⟩
    · go_quiet (fail)
      go_wp2_with fail
      rw [rmay_endk HR.out (first0 (yes_b e0 f0)) (by decide)]
      exact bodyPost_ret (v := .tuple #[.int .i64 9, .int .i64 0]) (by simp [results, Tryd.results8, go_sem]) rfl ⟨rfl, KH.out.trans (Below.mono (B := W7.heap.size) (by (repeat' (first | (with_reducible exact Below.refl _ _) | (with_reducible refine below_drewN ?_ _) | (with_reducible refine Below.drew ?_) | (with_reducible refine Below.alloc ?_ ?_ _) | (with_reducible refine Below.setCell ?_ ?_ _) | (with_reducible refine Below.trans ?_ (Below.mono (by with_reducible assumption) ?_)) | omega | (simp only [World.size_alloc, World.size_setCell, World.size_drew, Go.Proofs.YtmimlniofhngjaaDoor.World.size_drewN] at *; omega) | (with_reducible refine Below.size (B := 0) ?_)))) (by have := KH.out.size; omega))⟩

theorem rmay_c (i m c : V4) (n : Int) (w : World) :
    Calls Tryd.prog 8 #[.agg #[.int .i64 i.a, .int .i64 i.b, .int .i64 i.c, .int .i64 i.d], .agg #[.int .i64 m.a, .int .i64 m.b, .int .i64 m.c, .int .i64 m.d], .agg #[.int .i64 c.a, .int .i64 c.b, .int .i64 c.c, .int .i64 c.d], .int .i64 n] w fun e w' => e = .returned (.tuple #[.int .i64 ((mayR i m c n).1 : Nat), .int .i64 ((mayR i m c n).2 : Nat)]) ∧ Below w.heap.size w w' := by
  cases h : goodV c && ratB n
  · exact rmay_bad1 i m c n w h
  · cases hi : goodV i
    · exact rmay_bad2 i m c n w h hi
    · cases hm : goodV m
      · exact rmay_bad3 i m c n w h hi hm
      · by_cases ha : (addR i m).2 = 0
        · exact rmay_good i m c n w h hi hm ha
        · exact rmay_over i m c n w h hi hm ha
end Go.Proofs.YtmimlniofhngjaaDoor
