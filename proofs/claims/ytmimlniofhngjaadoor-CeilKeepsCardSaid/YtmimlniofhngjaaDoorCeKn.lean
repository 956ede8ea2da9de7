/- The walk of the law CeilKeeps: what may be given out. Condition: the package variables lie as the program's text lays them. -/
import Derived.Test.YtmimlniofhngjaaDoorCeK
namespace Go.Proofs.YtmimlniofhngjaaDoor
open Go Go.RowKit

set_option maxRecDepth 100000 in
set_option maxHeartbeats 3200000 in
theorem keeps_nil (s : Nat → Addr) (i m c : V4) (n : Int) (w : World) (hs : Sent s w) (ht : ETy w) (hi : goodV i = true) (hm : goodV m = true) (hc : goodV c = true) (hn0 : 1 ≤ n) (hn1 : n ≤ 15) (hk : (mayR i m c n).1 = 0) (h2 : (addR i m).2 = 0) (hf : firstB m (addR i m).1 (topV c n) = 4) (h4 : okN m (overV (topV c n) i) 4 = true) :
    Calls Tryd.prog 4 #[.agg #[.int .i64 i.a, .int .i64 i.b, .int .i64 i.c, .int .i64 i.d], .agg #[.int .i64 m.a, .int .i64 m.b, .int .i64 m.c, .int .i64 m.d], .agg #[.int .i64 c.a, .int .i64 c.b, .int .i64 c.c, .int .i64 c.d], .int .i64 n] w fun e w' => e = .returned (.bool true) ∧ Below w.heap.size w w' := by
  have HSI := Lib.hid hs
  have H4 := Lib.hid h4
  clear h4
  have hq : ratB (n + 1) = true := ratB_iff.2 ⟨by omega, by omega⟩
  have HN := Lib.hid (fun W h => may_nil s i m c (n + 1) W h (by rw [may_yes hc hq h2 (first_more hc hf)]))
  have HA := Lib.hid (fun W h => add_ok s i m W h h2)
  have H0 := Lib.hid (fun W => good_c i W)
  rw [hi] at H0
  have H1 := Lib.hid (fun W => good_c m W)
  rw [hm] at H1
  have H2 := Lib.hid (fun W => good_c c W)
  rw [hc] at H2
  have hr : ratB n = true := ratB_iff.2 ⟨hn0, by omega⟩
  have HM := Lib.hid (fun W h => may_nil s i m c n W h hk)
  have HR := Lib.hid (fun W h => room_ok s i c n W h hi hc hr)
  have HX := Lib.hid (fun W h => exc_ok s i c n W h hi hc hr)
  have HY := Lib.hid (fun W h => exc_ok s (addR i m).1 c n W h (add_sum h2).2.2.2 hc hr)
  rw [excess_same h2 hf] at HY
  have NBH : Hid (¬ ((overV (topV c n) i).a > 0 ∧ (overV i (topV c n)).a > 0) ∧ ¬ ((overV (topV c n) i).b > 0 ∧ (overV i (topV c n)).b > 0) ∧ ¬ ((overV (topV c n) i).c > 0 ∧ (overV i (topV c n)).c > 0) ∧ ¬ ((overV (topV c n) i).d > 0 ∧ (overV i (topV c n)).d > 0)) := Lib.hid ⟨over_not_both _ _, over_not_both _ _, over_not_both _ _, over_not_both _ _⟩
  generalize (addR i m).1 = S at HA HY
  generalize overV (topV c n) i = R at HR H4 NBH
  generalize overV i (topV c n) = X at HX HY NBH
  clear hi hm hc hr hk hq h2 hf
  have hE := Lib.hid eqV
  go_enter Tryd.func4, Tryd.ntmps4
  go_wp2_with fail
  refine (awake_c s _ (hs.below (B := w.heap.size) (by (repeat' (first | (with_reducible exact Below.refl _ _) | (with_reducible refine below_drewN ?_ _) | (with_reducible refine Below.drew ?_) | (with_reducible refine Below.alloc ?_ ?_ _) | (with_reducible refine Below.setCell ?_ ?_ _) | (with_reducible refine Below.trans ?_ (Below.mono (by with_reducible assumption) ?_)) | omega | (simp only [World.size_alloc] at *; omega) | (with_reducible refine Below.size (B := 0) ?_)))) (Nat.le_refl _)) (ht.below (B := w.heap.size) (by (repeat' (first | (with_reducible exact Below.refl _ _) | (with_reducible refine below_drewN ?_ _) | (with_reducible refine Below.drew ?_) | (with_reducible refine Below.alloc ?_ ?_ _) | (with_reducible refine Below.setCell ?_ ?_ _) | (with_reducible refine Below.trans ?_ (Below.mono (by with_reducible assumption) ?_)) | omega | (simp only [World.size_alloc] at *; omega) | (with_reducible refine Below.size (B := 0) ?_)))) (Nat.le_refl _))).mono ?_
  rintro e w1 ⟨rfl, hb1⟩
  have Vi : Vb w1 w.heap.size i := (((Vb.new w i).alloc _).alloc _).step0 hb1
  have Vm : Vb w1 (w.heap.size + 1) m := ((Vb.new_at (by simp) m).alloc _).step0 hb1
  have Vc : Vb w1 (w.heap.size + 1 + 1) c := (Vb.new_at (by simp) c).step0 hb1
  obtain ⟨qi0, qi1, qi2, qi3, qif, qil⟩ := Vi.facts
  go_wp2_with fail
  refine (H0.out _).mono ?_
  rintro e w2 ⟨rfl, hb2⟩
  clear qi0 qi1 qi2 qi3 qif qil
  replace Vi := Vi.step0 hb2
  replace Vm := Vm.step0 hb2
  replace Vc := Vc.step0 hb2
  obtain ⟨qm0, qm1, qm2, qm3, qmf, qml⟩ := Vm.facts
  go_wp2_with fail
  refine (H1.out _).mono ?_
  rintro e w3 ⟨rfl, hb3⟩
  clear qm0 qm1 qm2 qm3 qmf qml
  replace Vi := Vi.step0 hb3
  replace Vm := Vm.step0 hb3
  replace Vc := Vc.step0 hb3
  obtain ⟨qc0, qc1, qc2, qc3, qcf, qcl⟩ := Vc.facts
  go_wp2_with fail
  refine (H2.out _).mono ?_
  rintro e w4 ⟨rfl, hb4⟩
  clear qc0 qc1 qc2 qc3 qcf qcl
  replace Vi := Vi.step0 hb4
  replace Vm := Vm.step0 hb4
  replace Vc := Vc.step0 hb4
  obtain ⟨qi0, qi1, qi2, qi3, qif, qil⟩ := Vi.facts
  obtain ⟨qm0, qm1, qm2, qm3, qmf, qml⟩ := Vm.facts
  obtain ⟨qc0, qc1, qc2, qc3, qcf, qcl⟩ := Vc.facts
  go_wp2_with fail
  refine (HM.out _ (hs.below (B := w.heap.size) (by (repeat' (first | (with_reducible exact Below.refl _ _) | (with_reducible refine below_drewN ?_ _) | (with_reducible refine Below.drew ?_) | (with_reducible refine Below.alloc ?_ ?_ _) | (with_reducible refine Below.setCell ?_ ?_ _) | (with_reducible refine Below.trans ?_ (Below.mono (by with_reducible assumption) ?_)) | omega | (simp only [World.size_alloc] at *; omega) | (with_reducible refine Below.size (B := 0) ?_)))) (Nat.le_refl _))).mono ?_
  rintro e w5 ⟨rfl, hb5⟩
  clear qi0 qi1 qi2 qi3 qif qil qm0 qm1 qm2 qm3 qmf qml qc0 qc1 qc2 qc3 qcf qcl
  replace Vi := Vi.step0 hb5
  replace Vm := Vm.step0 hb5
  replace Vc := Vc.step0 hb5
  obtain ⟨qi0, qi1, qi2, qi3, qif, qil⟩ := Vi.facts
  obtain ⟨qc0, qc1, qc2, qc3, qcf, qcl⟩ := Vc.facts
  go_wp2_with fail
  refine (HR.out _ (hs.below (B := w.heap.size) (by (repeat' (first | (with_reducible exact Below.refl _ _) | (with_reducible refine below_drewN ?_ _) | (with_reducible refine Below.drew ?_) | (with_reducible refine Below.alloc ?_ ?_ _) | (with_reducible refine Below.setCell ?_ ?_ _) | (with_reducible refine Below.trans ?_ (Below.mono (by with_reducible assumption) ?_)) | omega | (simp only [World.size_alloc] at *; omega) | (with_reducible refine Below.size (B := 0) ?_)))) (Nat.le_refl _))).mono ?_
  rintro e w6 ⟨rfl, hb6⟩
  clear qi0 qi1 qi2 qi3 qif qil qc0 qc1 qc2 qc3 qcf qcl
  replace Vi := Vi.step0 hb6
  replace Vm := Vm.step0 hb6
  replace Vc := Vc.step0 hb6
  obtain ⟨qi0, qi1, qi2, qi3, qif, qil⟩ := Vi.facts
  obtain ⟨qc0, qc1, qc2, qc3, qcf, qcl⟩ := Vc.facts
  go_wp2_with fail
  refine (HX.out _ (hs.below (B := w.heap.size) (by (repeat' (first | (with_reducible exact Below.refl _ _) | (with_reducible refine below_drewN ?_ _) | (with_reducible refine Below.drew ?_) | (with_reducible refine Below.alloc ?_ ?_ _) | (with_reducible refine Below.setCell ?_ ?_ _) | (with_reducible refine Below.trans ?_ (Below.mono (by with_reducible assumption) ?_)) | omega | (simp only [World.size_alloc] at *; omega) | (with_reducible refine Below.size (B := 0) ?_)))) (Nat.le_refl _))).mono ?_
  rintro e w7 ⟨rfl, hb7⟩
  clear qi0 qi1 qi2 qi3 qif qil qc0 qc1 qc2 qc3 qcf qcl
  replace Vi := Vi.step hb7
  replace Vm := Vm.step hb7
  replace Vc := Vc.step hb7
  have Vr := Vb.fresh R hb7
  go_wp2_with fail
  refine (kind_nil _).mono ?_
  rintro e w8 ⟨rfl, hb8⟩
  replace Vi := Vi.step hb8
  replace Vm := Vm.step hb8
  replace Vc := Vc.step hb8
  replace Vr := Vr.step hb8
  have Vx := Vb.fresh X hb8
  have KH : Hid (Below w.heap.size w w8) := Lib.hid (by (repeat' (first | (with_reducible exact Below.refl _ _) | (with_reducible refine below_drewN ?_ _) | (with_reducible refine Below.drew ?_) | (with_reducible refine Below.alloc ?_ ?_ _) | (with_reducible refine Below.setCell ?_ ?_ _) | (with_reducible refine Below.trans ?_ (Below.mono (by with_reducible assumption) ?_)) | omega | (simp only [World.size_alloc] at *; omega) | (with_reducible refine Below.size (B := 0) ?_))))
  clear hb1 hb2 hb3 hb4 hb5 hb6 hb7 hb8
  obtain ⟨qm0, qm1, qm2, qm3, qmf, qml⟩ := Vm.facts
  obtain ⟨qr0, qr1, qr2, qr3, qrf, qrl⟩ := Vr.facts
  obtain ⟨qx0, qx1, qx2, qx3, qxf, qxl⟩ := Vx.facts
  go_wp2_with fail
  go_loopw [14, 15] (fun t u wr => ∃ (j : Nat) (B : Bool), j ≤ 4 ∧ okN m R j = B ∧ t = .bool B ∧ u = .int .i64 (j : Int) ∧ Vb wr (w.heap.size + 1) m ∧ Vb wr w6.heap.size R ∧ Vb wr w7.heap.size X ∧ Below w.heap.size w wr ∧ Vb wr w.heap.size i ∧ Vb wr (w.heap.size + 1 + 1) c) (fun _ u _ => 4 - (intOf u).toNat)
  case atStart => exact ⟨0, true, by omega, okN_zero m R, rfl, rfl, Vm, Vr, Vx, KH.out, Vi, Vc⟩
  case round =>
    clear Vm Vr Vx KH qm0 qm1 qm2 qm3 qmf qml qr0 qr1 qr2 qr3 qrf qrl qx0 qx1 qx2 qx3 qxf qxl Vi Vc
    obtain ⟨j, B, hj, hB, rfl, rfl, Vm, Vr, Vx, hbr, Vi, Vc⟩ := hrel
    obtain ⟨qm0, qm1, qm2, qm3, qmf, qml⟩ := Vm.facts
    obtain ⟨qr0, qr1, qr2, qr3, qrf, qrl⟩ := Vr.facts
    obtain ⟨qx0, qx1, qx2, qx3, qxf, qxl⟩ := Vx.facts
    have KB := Lib.hid hbr
    clear hbr
    have HB := Lib.hid hB
    clear hB
    by_cases hlt : j < 4
    · rcases (show j = 0 ∨ j = 1 ∨ j = 2 ∨ j = 3 by omega) with rfl | rfl | rfl | rfl
      · have NB := NBH.out.1
        by_cases p : R.a > 0
        · have p2 : X.a ≤ 0 := by have := NB; omega
          clear NB
          cases B
          · exact absurd (HB.out.symm.trans (okN_zero m R)) (by decide)
          · cases e : (m.a == 0)
            · cases f : decide (m.a ≤ R.a)
              · skip
                go_wp2_with fail
                go_quiet (fail)
                go_wp2_with fail
                go_roundw
                case rel => exact ⟨0 + 1, _, by omega, (okN_succ m R 0).trans (by rw [HB.out, Bool.true_and]; show okJ m.a R.a = _; unfold okJ; rw [e, f]; rfl), rfl, by go_num, Vm, Vr, Vx, (by first | exact KB.out | exact below_drewN KB.out _), Vi, Vc⟩
                case measure => simp [intOf]
              · skip
                go_wp2_with fail
                go_quiet (fail)
                go_wp2_with fail
                go_roundw
                case rel => exact ⟨0 + 1, _, by omega, (okN_succ m R 0).trans (by rw [HB.out, Bool.true_and]; show okJ m.a R.a = _; unfold okJ; rw [e, f]; rfl), rfl, by go_num, Vm, Vr, Vx, (by first | exact KB.out | exact below_drewN KB.out _), Vi, Vc⟩
                case measure => simp [intOf]
            · skip
              go_wp2_with fail
              go_quiet (fail)
              go_wp2_with fail
              go_roundw
              case rel => exact ⟨0 + 1, _, by omega, (okN_succ m R 0).trans (by rw [HB.out, Bool.true_and]; show okJ m.a R.a = _; unfold okJ; rw [e]; rfl), rfl, by go_num, Vm, Vr, Vx, (by first | exact KB.out | exact below_drewN KB.out _), Vi, Vc⟩
              case measure => simp [intOf]
        · have p2 : R.a ≤ 0 := by omega
          clear NB p
          cases B
          · exact absurd (HB.out.symm.trans (okN_zero m R)) (by decide)
          · cases e : (m.a == 0)
            · cases f : decide (m.a ≤ R.a)
              · skip
                go_wp2_with fail
                go_quiet (fail)
                go_wp2_with fail
                go_roundw
                case rel => exact ⟨0 + 1, _, by omega, (okN_succ m R 0).trans (by rw [HB.out, Bool.true_and]; show okJ m.a R.a = _; unfold okJ; rw [e, f]; rfl), rfl, by go_num, Vm, Vr, Vx, (by first | exact KB.out | exact below_drewN KB.out _), Vi, Vc⟩
                case measure => simp [intOf]
              · skip
                go_wp2_with fail
                go_quiet (fail)
                go_wp2_with fail
                go_roundw
                case rel => exact ⟨0 + 1, _, by omega, (okN_succ m R 0).trans (by rw [HB.out, Bool.true_and]; show okJ m.a R.a = _; unfold okJ; rw [e, f]; rfl), rfl, by go_num, Vm, Vr, Vx, (by first | exact KB.out | exact below_drewN KB.out _), Vi, Vc⟩
                case measure => simp [intOf]
            · skip
              go_wp2_with fail
              go_quiet (fail)
              go_wp2_with fail
              go_roundw
              case rel => exact ⟨0 + 1, _, by omega, (okN_succ m R 0).trans (by rw [HB.out, Bool.true_and]; show okJ m.a R.a = _; unfold okJ; rw [e]; rfl), rfl, by go_num, Vm, Vr, Vx, (by first | exact KB.out | exact below_drewN KB.out _), Vi, Vc⟩
              case measure => simp [intOf]
      · have NB := NBH.out.2.1
        by_cases p : R.b > 0
        · have p2 : X.b ≤ 0 := by have := NB; omega
          clear NB
          cases B
          · skip
            go_wp2_with fail
            go_quiet (fail)
            go_wp2_with fail
            go_roundw
            case rel => exact ⟨1 + 1, _, by omega, (okN_succ m R 1).trans (by rw [HB.out, Bool.false_and]), rfl, by go_num, Vm, Vr, Vx, (by first | exact KB.out | exact below_drewN KB.out _), Vi, Vc⟩
            case measure => simp [intOf]
          · cases e : (m.b == 0)
            · cases f : decide (m.b ≤ R.b)
              · skip
                go_wp2_with fail
                go_quiet (fail)
                go_wp2_with fail
                go_roundw
                case rel => exact ⟨1 + 1, _, by omega, (okN_succ m R 1).trans (by rw [HB.out, Bool.true_and]; show okJ m.b R.b = _; unfold okJ; rw [e, f]; rfl), rfl, by go_num, Vm, Vr, Vx, (by first | exact KB.out | exact below_drewN KB.out _), Vi, Vc⟩
                case measure => simp [intOf]
              · skip
                go_wp2_with fail
                go_quiet (fail)
                go_wp2_with fail
                go_roundw
                case rel => exact ⟨1 + 1, _, by omega, (okN_succ m R 1).trans (by rw [HB.out, Bool.true_and]; show okJ m.b R.b = _; unfold okJ; rw [e, f]; rfl), rfl, by go_num, Vm, Vr, Vx, (by first | exact KB.out | exact below_drewN KB.out _), Vi, Vc⟩
                case measure => simp [intOf]
            · skip
              go_wp2_with fail
              go_quiet (fail)
              go_wp2_with fail
              go_roundw
              case rel => exact ⟨1 + 1, _, by omega, (okN_succ m R 1).trans (by rw [HB.out, Bool.true_and]; show okJ m.b R.b = _; unfold okJ; rw [e]; rfl), rfl, by go_num, Vm, Vr, Vx, (by first | exact KB.out | exact below_drewN KB.out _), Vi, Vc⟩
              case measure => simp [intOf]
        · have p2 : R.b ≤ 0 := by omega
          clear NB p
          cases B
          · skip
            go_wp2_with fail
            go_quiet (fail)
            go_wp2_with fail
            go_roundw
            case rel => exact ⟨1 + 1, _, by omega, (okN_succ m R 1).trans (by rw [HB.out, Bool.false_and]), rfl, by go_num, Vm, Vr, Vx, (by first | exact KB.out | exact below_drewN KB.out _), Vi, Vc⟩
            case measure => simp [intOf]
          · cases e : (m.b == 0)
            · cases f : decide (m.b ≤ R.b)
              · skip
                go_wp2_with fail
                go_quiet (fail)
                go_wp2_with fail
                go_roundw
                case rel => exact ⟨1 + 1, _, by omega, (okN_succ m R 1).trans (by rw [HB.out, Bool.true_and]; show okJ m.b R.b = _; unfold okJ; rw [e, f]; rfl), rfl, by go_num, Vm, Vr, Vx, (by first | exact KB.out | exact below_drewN KB.out _), Vi, Vc⟩
                case measure => simp [intOf]
              · skip
                go_wp2_with fail
                go_quiet (fail)
                go_wp2_with fail
                go_roundw
                case rel => exact ⟨1 + 1, _, by omega, (okN_succ m R 1).trans (by rw [HB.out, Bool.true_and]; show okJ m.b R.b = _; unfold okJ; rw [e, f]; rfl), rfl, by go_num, Vm, Vr, Vx, (by first | exact KB.out | exact below_drewN KB.out _), Vi, Vc⟩
                case measure => simp [intOf]
            · skip
              go_wp2_with fail
              go_quiet (fail)
              go_wp2_with fail
              go_roundw
              case rel => exact ⟨1 + 1, _, by omega, (okN_succ m R 1).trans (by rw [HB.out, Bool.true_and]; show okJ m.b R.b = _; unfold okJ; rw [e]; rfl), rfl, by go_num, Vm, Vr, Vx, (by first | exact KB.out | exact below_drewN KB.out _), Vi, Vc⟩
              case measure => simp [intOf]
      · have NB := NBH.out.2.2.1
        by_cases p : R.c > 0
        · have p2 : X.c ≤ 0 := by have := NB; omega
          clear NB
          cases B
          · skip
            go_wp2_with fail
            go_quiet (fail)
            go_wp2_with fail
            go_roundw
            case rel => exact ⟨2 + 1, _, by omega, (okN_succ m R 2).trans (by rw [HB.out, Bool.false_and]), rfl, by go_num, Vm, Vr, Vx, (by first | exact KB.out | exact below_drewN KB.out _), Vi, Vc⟩
            case measure => simp [intOf]
          · cases e : (m.c == 0)
            · cases f : decide (m.c ≤ R.c)
              · skip
                go_wp2_with fail
                go_quiet (fail)
                go_wp2_with fail
                go_roundw
                case rel => exact ⟨2 + 1, _, by omega, (okN_succ m R 2).trans (by rw [HB.out, Bool.true_and]; show okJ m.c R.c = _; unfold okJ; rw [e, f]; rfl), rfl, by go_num, Vm, Vr, Vx, (by first | exact KB.out | exact below_drewN KB.out _), Vi, Vc⟩
                case measure => simp [intOf]
              · skip
                go_wp2_with fail
                go_quiet (fail)
                go_wp2_with fail
                go_roundw
                case rel => exact ⟨2 + 1, _, by omega, (okN_succ m R 2).trans (by rw [HB.out, Bool.true_and]; show okJ m.c R.c = _; unfold okJ; rw [e, f]; rfl), rfl, by go_num, Vm, Vr, Vx, (by first | exact KB.out | exact below_drewN KB.out _), Vi, Vc⟩
                case measure => simp [intOf]
            · skip
              go_wp2_with fail
              go_quiet (fail)
              go_wp2_with fail
              go_roundw
              case rel => exact ⟨2 + 1, _, by omega, (okN_succ m R 2).trans (by rw [HB.out, Bool.true_and]; show okJ m.c R.c = _; unfold okJ; rw [e]; rfl), rfl, by go_num, Vm, Vr, Vx, (by first | exact KB.out | exact below_drewN KB.out _), Vi, Vc⟩
              case measure => simp [intOf]
        · have p2 : R.c ≤ 0 := by omega
          clear NB p
          cases B
          · skip
            go_wp2_with fail
            go_quiet (fail)
            go_wp2_with fail
            go_roundw
            case rel => exact ⟨2 + 1, _, by omega, (okN_succ m R 2).trans (by rw [HB.out, Bool.false_and]), rfl, by go_num, Vm, Vr, Vx, (by first | exact KB.out | exact below_drewN KB.out _), Vi, Vc⟩
            case measure => simp [intOf]
          · cases e : (m.c == 0)
            · cases f : decide (m.c ≤ R.c)
              · skip
                go_wp2_with fail
                go_quiet (fail)
                go_wp2_with fail
                go_roundw
                case rel => exact ⟨2 + 1, _, by omega, (okN_succ m R 2).trans (by rw [HB.out, Bool.true_and]; show okJ m.c R.c = _; unfold okJ; rw [e, f]; rfl), rfl, by go_num, Vm, Vr, Vx, (by first | exact KB.out | exact below_drewN KB.out _), Vi, Vc⟩
                case measure => simp [intOf]
              · skip
                go_wp2_with fail
                go_quiet (fail)
                go_wp2_with fail
                go_roundw
                case rel => exact ⟨2 + 1, _, by omega, (okN_succ m R 2).trans (by rw [HB.out, Bool.true_and]; show okJ m.c R.c = _; unfold okJ; rw [e, f]; rfl), rfl, by go_num, Vm, Vr, Vx, (by first | exact KB.out | exact below_drewN KB.out _), Vi, Vc⟩
                case measure => simp [intOf]
            · skip
              go_wp2_with fail
              go_quiet (fail)
              go_wp2_with fail
              go_roundw
              case rel => exact ⟨2 + 1, _, by omega, (okN_succ m R 2).trans (by rw [HB.out, Bool.true_and]; show okJ m.c R.c = _; unfold okJ; rw [e]; rfl), rfl, by go_num, Vm, Vr, Vx, (by first | exact KB.out | exact below_drewN KB.out _), Vi, Vc⟩
              case measure => simp [intOf]
      · have NB := NBH.out.2.2.2
        by_cases p : R.d > 0
        · have p2 : X.d ≤ 0 := by have := NB; omega
          clear NB
          cases B
          · skip
            go_wp2_with fail
            go_quiet (fail)
            go_wp2_with fail
            go_roundw
            case rel => exact ⟨3 + 1, _, by omega, (okN_succ m R 3).trans (by rw [HB.out, Bool.false_and]), rfl, by go_num, Vm, Vr, Vx, (by first | exact KB.out | exact below_drewN KB.out _), Vi, Vc⟩
            case measure => simp [intOf]
          · cases e : (m.d == 0)
            · cases f : decide (m.d ≤ R.d)
              · skip
                go_wp2_with fail
                go_quiet (fail)
                go_wp2_with fail
                go_roundw
                case rel => exact ⟨3 + 1, _, by omega, (okN_succ m R 3).trans (by rw [HB.out, Bool.true_and]; show okJ m.d R.d = _; unfold okJ; rw [e, f]; rfl), rfl, by go_num, Vm, Vr, Vx, (by first | exact KB.out | exact below_drewN KB.out _), Vi, Vc⟩
                case measure => simp [intOf]
              · skip
                go_wp2_with fail
                go_quiet (fail)
                go_wp2_with fail
                go_roundw
                case rel => exact ⟨3 + 1, _, by omega, (okN_succ m R 3).trans (by rw [HB.out, Bool.true_and]; show okJ m.d R.d = _; unfold okJ; rw [e, f]; rfl), rfl, by go_num, Vm, Vr, Vx, (by first | exact KB.out | exact below_drewN KB.out _), Vi, Vc⟩
                case measure => simp [intOf]
            · skip
              go_wp2_with fail
              go_quiet (fail)
              go_wp2_with fail
              go_roundw
              case rel => exact ⟨3 + 1, _, by omega, (okN_succ m R 3).trans (by rw [HB.out, Bool.true_and]; show okJ m.d R.d = _; unfold okJ; rw [e]; rfl), rfl, by go_num, Vm, Vr, Vx, (by first | exact KB.out | exact below_drewN KB.out _), Vi, Vc⟩
              case measure => simp [intOf]
        · have p2 : R.d ≤ 0 := by omega
          clear NB p
          cases B
          · skip
            go_wp2_with fail
            go_quiet (fail)
            go_wp2_with fail
            go_roundw
            case rel => exact ⟨3 + 1, _, by omega, (okN_succ m R 3).trans (by rw [HB.out, Bool.false_and]), rfl, by go_num, Vm, Vr, Vx, (by first | exact KB.out | exact below_drewN KB.out _), Vi, Vc⟩
            case measure => simp [intOf]
          · cases e : (m.d == 0)
            · cases f : decide (m.d ≤ R.d)
              · skip
                go_wp2_with fail
                go_quiet (fail)
                go_wp2_with fail
                go_roundw
                case rel => exact ⟨3 + 1, _, by omega, (okN_succ m R 3).trans (by rw [HB.out, Bool.true_and]; show okJ m.d R.d = _; unfold okJ; rw [e, f]; rfl), rfl, by go_num, Vm, Vr, Vx, (by first | exact KB.out | exact below_drewN KB.out _), Vi, Vc⟩
                case measure => simp [intOf]
              · skip
                go_wp2_with fail
                go_quiet (fail)
                go_wp2_with fail
                go_roundw
                case rel => exact ⟨3 + 1, _, by omega, (okN_succ m R 3).trans (by rw [HB.out, Bool.true_and]; show okJ m.d R.d = _; unfold okJ; rw [e, f]; rfl), rfl, by go_num, Vm, Vr, Vx, (by first | exact KB.out | exact below_drewN KB.out _), Vi, Vc⟩
                case measure => simp [intOf]
            · skip
              go_wp2_with fail
              go_quiet (fail)
              go_wp2_with fail
              go_roundw
              case rel => exact ⟨3 + 1, _, by omega, (okN_succ m R 3).trans (by rw [HB.out, Bool.true_and]; show okJ m.d R.d = _; unfold okJ; rw [e]; rfl), rfl, by go_num, Vm, Vr, Vx, (by first | exact KB.out | exact below_drewN KB.out _), Vi, Vc⟩
              case measure => simp [intOf]
    · obtain rfl : j = 4 := by omega
      have e4 := HB.out
      rw [H4.out] at e4
      subst e4
      clear HB hlt
      clear qm0 qm1 qm2 qm3 qmf qml qr0 qr1 qr2 qr3 qrf qrl qx0 qx1 qx2 qx3 qxf qxl Vr
      obtain ⟨qi0, qi1, qi2, qi3, qif, qil⟩ := Vi.facts
      obtain ⟨qm0, qm1, qm2, qm3, qmf, qml⟩ := Vm.facts
      go_wp2_with fail
      refine (HA.out _ (HSI.out.below (B := w.heap.size) (KB.out.trans (Below.mono (B := wr.heap.size) (by (repeat' (first | (with_reducible exact Below.refl _ _) | (with_reducible refine below_drewN ?_ _) | (with_reducible refine Below.drew ?_) | (with_reducible refine Below.alloc ?_ ?_ _) | (with_reducible refine Below.setCell ?_ ?_ _) | (with_reducible refine Below.trans ?_ (Below.mono (by with_reducible assumption) ?_)) | omega | (simp only [World.size_alloc, World.size_setCell, World.size_drew, Go.Proofs.YtmimlniofhngjaaDoor.World.size_drewN] at *; omega) | (with_reducible refine Below.size (B := 0) ?_)))) KB.out.size)) (Nat.le_refl _))).mono ?_
      rintro e w21 ⟨rfl, hb21⟩
      clear qi0 qi1 qi2 qi3 qif qil qm0 qm1 qm2 qm3 qmf qml
      replace Vi := Vi.step0 hb21
      replace Vm := Vm.step0 hb21
      replace Vc := Vc.step0 hb21
      replace Vx := Vx.step0 hb21
      obtain ⟨qc0, qc1, qc2, qc3, qcf, qcl⟩ := Vc.facts
      go_wp2_with fail
      refine (HY.out _ (HSI.out.below (B := w.heap.size) (KB.out.trans (Below.mono (B := wr.heap.size) (by (repeat' (first | (with_reducible exact Below.refl _ _) | (with_reducible refine below_drewN ?_ _) | (with_reducible refine Below.drew ?_) | (with_reducible refine Below.alloc ?_ ?_ _) | (with_reducible refine Below.setCell ?_ ?_ _) | (with_reducible refine Below.trans ?_ (Below.mono (by with_reducible assumption) ?_)) | omega | (simp only [World.size_alloc, World.size_setCell, World.size_drew, Go.Proofs.YtmimlniofhngjaaDoor.World.size_drewN] at *; omega) | (with_reducible refine Below.size (B := 0) ?_)))) KB.out.size)) (Nat.le_refl _))).mono ?_
      rintro e w22 ⟨rfl, hb22⟩
      clear qc0 qc1 qc2 qc3 qcf qcl
      replace Vi := Vi.step hb22
      replace Vm := Vm.step hb22
      replace Vc := Vc.step hb22
      replace Vx := Vx.step hb22
      have Vs := Vb.fresh S hb22
      obtain ⟨qi0, qi1, qi2, qi3, qif, qil⟩ := Vi.facts
      obtain ⟨qm0, qm1, qm2, qm3, qmf, qml⟩ := Vm.facts
      obtain ⟨qc0, qc1, qc2, qc3, qcf, qcl⟩ := Vc.facts
      obtain ⟨qx0, qx1, qx2, qx3, qxf, qxl⟩ := Vx.facts
      have hEE := hE.out
      go_wp2_with fail
      refine (HN.out _ (HSI.out.below (B := w.heap.size) (KB.out.trans (Below.mono (B := wr.heap.size) (by (repeat' (first | (with_reducible exact Below.refl _ _) | (with_reducible refine below_drewN ?_ _) | (with_reducible refine Below.drew ?_) | (with_reducible refine Below.alloc ?_ ?_ _) | (with_reducible refine Below.setCell ?_ ?_ _) | (with_reducible refine Below.trans ?_ (Below.mono (by with_reducible assumption) ?_)) | omega | (simp only [World.size_alloc] at *; omega) | (with_reducible refine Below.size (B := 0) ?_)))) KB.out.size)) (Nat.le_refl _))).mono ?_
      rintro e w23 ⟨rfl, hb23⟩
      clear qi0 qi1 qi2 qi3 qif qil qm0 qm1 qm2 qm3 qmf qml qc0 qc1 qc2 qc3 qcf qcl qx0 qx1 qx2 qx3 qxf qxl
      replace Vi := Vi.step hb23
      replace Vm := Vm.step hb23
      replace Vc := Vc.step hb23
      replace Vx := Vx.step hb23
      replace Vs := Vs.step hb23
      have Vy := Vb.fresh X hb23
      go_wp2_with fail
      go_ret
      exact ⟨rfl, KB.out.trans (Below.mono (B := wr.heap.size) (by (repeat' (first | (with_reducible exact Below.refl _ _) | (with_reducible refine below_drewN ?_ _) | (with_reducible refine Below.drew ?_) | (with_reducible refine Below.alloc ?_ ?_ _) | (with_reducible refine Below.setCell ?_ ?_ _) | (with_reducible refine Below.trans ?_ (Below.mono (by with_reducible assumption) ?_)) | omega | (simp only [World.size_alloc] at *; omega) | (with_reducible refine Below.size (B := 0) ?_)))) KB.out.size)⟩
end Go.Proofs.YtmimlniofhngjaaDoor
