/- The walk of the law CeilExact: contracts by what is valid. Condition: the package variables lie as the program's text lays them. -/
import Derived.Test.YtmimlniofhngjaaDoorCeK
import Derived.Test.YtmimlniofhngjaaDoorCeS
namespace Go.Proofs.YtmimlniofhngjaaDoor
open Go Go.RowKit

theorem may_not9 (s : Nat → Addr) (i m c : V4) (n : Int) (w : World) (hs : Sent s w) (h : (mayR i m c n).1 ≠ 9) :
    Calls Tryd.prog 7 #[.agg #[.int .i64 i.a, .int .i64 i.b, .int .i64 i.c, .int .i64 i.d], .agg #[.int .i64 m.a, .int .i64 m.b, .int .i64 m.c, .int .i64 m.d], .agg #[.int .i64 c.a, .int .i64 c.b, .int .i64 c.c, .int .i64 c.d], .int .i64 n] w fun e w' => e = .returned (errV s (mayR i m c n).1) ∧ Below w.heap.size w w' :=
  (may_c s i m c n w hs).mono fun e w' ⟨⟨ev, he, hv⟩, hb⟩ => by
    rcases hv with hv | hv
    · exact absurd hv.1 h
    · exact ⟨by rw [he, hv.2], hb⟩
theorem top_ok (s : Nat → Addr) (c : V4) (n : Int) (w : World) (hs : Sent s w) (hc : (goodV c && ratB n) = true) :
    Calls Tryd.prog 11 #[.agg #[.int .i64 c.a, .int .i64 c.b, .int .i64 c.c, .int .i64 c.d], .int .i64 n] w fun e w' => e = .returned (.tuple #[.agg #[.int .i64 ((topV c n)).a, .int .i64 ((topV c n)).b, .int .i64 ((topV c n)).c, .int .i64 ((topV c n)).d], .nilIface]) ∧ Below w.heap.size w w' := by
  have h := top_c s c n w hs
  rw [show topR c n = (topV c n, 0) by unfold topR; rw [hc]; rfl] at h
  exact h
theorem top_no (s : Nat → Addr) (c : V4) (n : Int) (w : World) (hs : Sent s w) (hc : (goodV c && ratB n) = false) :
    Calls Tryd.prog 11 #[.agg #[.int .i64 c.a, .int .i64 c.b, .int .i64 c.c, .int .i64 c.d], .int .i64 n] w fun e w' => e = .returned (.tuple #[.agg #[.int .i64 0, .int .i64 0, .int .i64 0, .int .i64 0], .iface 83 (.pointer (some (s 0)))]) ∧ Below w.heap.size w w' := by
  have h := top_c s c n w hs
  rw [show topR c n = (⟨0, 0, 0, 0⟩, 1) by unfold topR; rw [hc]; rfl] at h
  exact h
theorem exc_no (s : Nat → Addr) (x c : V4) (n : Int) (w : World) (hs : Sent s w) (hc : (goodV x && (goodV c && ratB n)) = false) :
    Calls Tryd.prog 12 #[.agg #[.int .i64 x.a, .int .i64 x.b, .int .i64 x.c, .int .i64 x.d], .agg #[.int .i64 c.a, .int .i64 c.b, .int .i64 c.c, .int .i64 c.d], .int .i64 n] w fun e w' => e = .returned (.tuple #[.agg #[.int .i64 0, .int .i64 0, .int .i64 0, .int .i64 0], .iface 83 (.pointer (some (s 0)))]) ∧ Below w.heap.size w w' := by
  have h := exc_c s x c n w hs
  rw [show excR x c n = (⟨0, 0, 0, 0⟩, 1) by unfold excR; rw [hc]; rfl] at h
  exact h
theorem room_no (s : Nat → Addr) (x c : V4) (n : Int) (w : World) (hs : Sent s w) (hc : (goodV x && (goodV c && ratB n)) = false) :
    Calls Tryd.prog 13 #[.agg #[.int .i64 x.a, .int .i64 x.b, .int .i64 x.c, .int .i64 x.d], .agg #[.int .i64 c.a, .int .i64 c.b, .int .i64 c.c, .int .i64 c.d], .int .i64 n] w fun e w' => e = .returned (.tuple #[.agg #[.int .i64 0, .int .i64 0, .int .i64 0, .int .i64 0], .iface 83 (.pointer (some (s 0)))]) ∧ Below w.heap.size w w' := by
  have h := room_c s x c n w hs
  rw [show roomR x c n = (⟨0, 0, 0, 0⟩, 1) by unfold roomR; rw [hc]; rfl] at h
  exact h

set_option maxRecDepth 100000 in
set_option maxHeartbeats 3200000 in
theorem exact_t1 (s : Nat → Addr) (i m c : V4) (n : Int) (w : World) (hs : Sent s w) (ht : ETy w) (hc : (goodV c && ratB n) = false) (h9 : (mayR i m c n).1 ≠ 9) :
    Calls Tryd.prog 3 #[.agg #[.int .i64 i.a, .int .i64 i.b, .int .i64 i.c, .int .i64 i.d], .agg #[.int .i64 m.a, .int .i64 m.b, .int .i64 m.c, .int .i64 m.d], .agg #[.int .i64 c.a, .int .i64 c.b, .int .i64 c.c, .int .i64 c.d], .int .i64 n] w fun e w' => e = .returned (.bool true) ∧ Below w.heap.size w w' := by
  have HT := Lib.hid (fun W h => top_no s c n W h hc)
  have HX := Lib.hid (fun W h => exc_no s i c n W h (by rw [hc, Bool.and_false]))
  have HR := Lib.hid (fun W h => room_no s i c n W h (by rw [hc, Bool.and_false]))
  have HG := Lib.hid (fun W => rgood12_c c n W)
  rw [hc] at HG
  have HM := Lib.hid (fun W h => may_not9 s i m c n W h h9)
  have HRM := Lib.hid (fun W => rmay_c i m c n W)
  have HK := Lib.hid (fun W h => kind_errV s (mayR i m c n).1 W h (may_le i m c n))
  generalize hk1 : (mayR i m c n).1 = k1 at HM HRM HK h9
  generalize (mayR i m c n).2 = k2 at HRM
  clear hk1
  have n9 : ((k1 : Int) == 9) = false := by rw [beq_eq_false_iff_ne]; omega
  clear h9
  clear hc
  have hE := Lib.hid eqV
  go_enter Tryd.func3, Tryd.ntmps3
  go_wp2_with fail
  refine (awake_c s _ (hs.below (B := w.heap.size) (by (repeat' (first | (with_reducible exact Below.refl _ _) | (with_reducible refine below_drewN ?_ _) | (with_reducible refine Below.drew ?_) | (with_reducible refine Below.alloc ?_ ?_ _) | (with_reducible refine Below.setCell ?_ ?_ _) | (with_reducible refine Below.trans ?_ (Below.mono (by with_reducible assumption) ?_)) | omega | (simp only [World.size_alloc] at *; omega) | (with_reducible refine Below.size (B := 0) ?_)))) (Nat.le_refl _)) (ht.below (B := w.heap.size) (by (repeat' (first | (with_reducible exact Below.refl _ _) | (with_reducible refine below_drewN ?_ _) | (with_reducible refine Below.drew ?_) | (with_reducible refine Below.alloc ?_ ?_ _) | (with_reducible refine Below.setCell ?_ ?_ _) | (with_reducible refine Below.trans ?_ (Below.mono (by with_reducible assumption) ?_)) | omega | (simp only [World.size_alloc] at *; omega) | (with_reducible refine Below.size (B := 0) ?_)))) (Nat.le_refl _))).mono ?_
  rintro e w1 ⟨rfl, hb1⟩
  have Vi : Vb w1 w.heap.size i := (((Vb.new w i).alloc _).alloc _).step0 hb1
  have Vm : Vb w1 (w.heap.size + 1) m := ((Vb.new_at (by simp) m).alloc _).step0 hb1
  have Vc : Vb w1 (w.heap.size + 1 + 1) c := (Vb.new_at (by simp) c).step0 hb1
  obtain ⟨qi0, qi1, qi2, qi3, qif, qil⟩ := Vi.facts
  obtain ⟨qm0, qm1, qm2, qm3, qmf, qml⟩ := Vm.facts
  obtain ⟨qc0, qc1, qc2, qc3, qcf, qcl⟩ := Vc.facts
  go_wp2_with fail
  refine (HM.out _ (hs.below (B := w.heap.size) (by (repeat' (first | (with_reducible exact Below.refl _ _) | (with_reducible refine below_drewN ?_ _) | (with_reducible refine Below.drew ?_) | (with_reducible refine Below.alloc ?_ ?_ _) | (with_reducible refine Below.setCell ?_ ?_ _) | (with_reducible refine Below.trans ?_ (Below.mono (by with_reducible assumption) ?_)) | omega | (simp only [World.size_alloc] at *; omega) | (with_reducible refine Below.size (B := 0) ?_)))) (Nat.le_refl _))).mono ?_
  rintro e w2 ⟨rfl, hb2⟩
  clear qi0 qi1 qi2 qi3 qif qil qm0 qm1 qm2 qm3 qmf qml qc0 qc1 qc2 qc3 qcf qcl
  replace Vi := Vi.step0 hb2
  replace Vm := Vm.step0 hb2
  replace Vc := Vc.step0 hb2
  obtain ⟨qi0, qi1, qi2, qi3, qif, qil⟩ := Vi.facts
  obtain ⟨qm0, qm1, qm2, qm3, qmf, qml⟩ := Vm.facts
  obtain ⟨qc0, qc1, qc2, qc3, qcf, qcl⟩ := Vc.facts
  go_wp2_with fail
  refine (HRM.out _).mono ?_
  rintro e w3 ⟨rfl, hb3⟩
  clear qi0 qi1 qi2 qi3 qif qil qm0 qm1 qm2 qm3 qmf qml qc0 qc1 qc2 qc3 qcf qcl
  replace Vi := Vi.step0 hb3
  replace Vm := Vm.step0 hb3
  replace Vc := Vc.step0 hb3
  go_wp2_with fail
  refine (HK.out _ (hs.below (B := w.heap.size) (by (repeat' (first | (with_reducible exact Below.refl _ _) | (with_reducible refine below_drewN ?_ _) | (with_reducible refine Below.drew ?_) | (with_reducible refine Below.alloc ?_ ?_ _) | (with_reducible refine Below.setCell ?_ ?_ _) | (with_reducible refine Below.trans ?_ (Below.mono (by with_reducible assumption) ?_)) | omega | (simp only [World.size_alloc] at *; omega) | (with_reducible refine Below.size (B := 0) ?_)))) (Nat.le_refl _))).mono ?_
  rintro e w4 ⟨rfl, hb4⟩
  replace Vi := Vi.step0 hb4
  replace Vm := Vm.step0 hb4
  replace Vc := Vc.step0 hb4
  clear Vm
  obtain ⟨qc0, qc1, qc2, qc3, qcf, qcl⟩ := Vc.facts
  go_wp2_with fail
  refine (HT.out _ (hs.below (B := w.heap.size) (by (repeat' (first | (with_reducible exact Below.refl _ _) | (with_reducible refine below_drewN ?_ _) | (with_reducible refine Below.drew ?_) | (with_reducible refine Below.alloc ?_ ?_ _) | (with_reducible refine Below.setCell ?_ ?_ _) | (with_reducible refine Below.trans ?_ (Below.mono (by with_reducible assumption) ?_)) | omega | (simp only [World.size_alloc] at *; omega) | (with_reducible refine Below.size (B := 0) ?_)))) (Nat.le_refl _))).mono ?_
  rintro e w5 ⟨rfl, hb5⟩
  clear qc0 qc1 qc2 qc3 qcf qcl
  replace Vi := Vi.step0 hb5
  replace Vc := Vc.step0 hb5
  obtain ⟨qi0, qi1, qi2, qi3, qif, qil⟩ := Vi.facts
  obtain ⟨qc0, qc1, qc2, qc3, qcf, qcl⟩ := Vc.facts
  go_wp2_with fail
  refine (HX.out _ (hs.below (B := w.heap.size) (by (repeat' (first | (with_reducible exact Below.refl _ _) | (with_reducible refine below_drewN ?_ _) | (with_reducible refine Below.drew ?_) | (with_reducible refine Below.alloc ?_ ?_ _) | (with_reducible refine Below.setCell ?_ ?_ _) | (with_reducible refine Below.trans ?_ (Below.mono (by with_reducible assumption) ?_)) | omega | (simp only [World.size_alloc] at *; omega) | (with_reducible refine Below.size (B := 0) ?_)))) (Nat.le_refl _))).mono ?_
  rintro e w6 ⟨rfl, hb6⟩
  clear qi0 qi1 qi2 qi3 qif qil qc0 qc1 qc2 qc3 qcf qcl
  replace Vi := Vi.step hb6
  replace Vc := Vc.step hb6
  have Vt := Vb.fresh ⟨0, 0, 0, 0⟩ hb6
  obtain ⟨qi0, qi1, qi2, qi3, qif, qil⟩ := Vi.facts
  obtain ⟨qc0, qc1, qc2, qc3, qcf, qcl⟩ := Vc.facts
  go_wp2_with fail
  refine (HR.out _ (hs.below (B := w.heap.size) (by (repeat' (first | (with_reducible exact Below.refl _ _) | (with_reducible refine below_drewN ?_ _) | (with_reducible refine Below.drew ?_) | (with_reducible refine Below.alloc ?_ ?_ _) | (with_reducible refine Below.setCell ?_ ?_ _) | (with_reducible refine Below.trans ?_ (Below.mono (by with_reducible assumption) ?_)) | omega | (simp only [World.size_alloc] at *; omega) | (with_reducible refine Below.size (B := 0) ?_)))) (Nat.le_refl _))).mono ?_
  rintro e w7 ⟨rfl, hb7⟩
  clear qi0 qi1 qi2 qi3 qif qil qc0 qc1 qc2 qc3 qcf qcl
  replace Vi := Vi.step hb7
  replace Vc := Vc.step hb7
  replace Vt := Vt.step hb7
  have Vx := Vb.fresh ⟨0, 0, 0, 0⟩ hb7
  obtain ⟨qc0, qc1, qc2, qc3, qcf, qcl⟩ := Vc.facts
  go_wp2_with fail
  refine (HG.out _).mono ?_
  rintro e w8 ⟨rfl, hb8⟩
  clear qc0 qc1 qc2 qc3 qcf qcl
  replace Vi := Vi.step hb8
  replace Vc := Vc.step hb8
  replace Vt := Vt.step hb8
  replace Vx := Vx.step hb8
  have Vr := Vb.fresh ⟨0, 0, 0, 0⟩ hb8
  go_wp2_with fail
  refine (kind_any s 1 (.iface 83 (.pointer (some (s 0)))) _ (hs.below (B := w.heap.size) (by (repeat' (first | (with_reducible exact Below.refl _ _) | (with_reducible refine below_drewN ?_ _) | (with_reducible refine Below.drew ?_) | (with_reducible refine Below.alloc ?_ ?_ _) | (with_reducible refine Below.setCell ?_ ?_ _) | (with_reducible refine Below.trans ?_ (Below.mono (by with_reducible assumption) ?_)) | omega | (simp only [World.size_alloc] at *; omega) | (with_reducible refine Below.size (B := 0) ?_)))) (Nat.le_refl _)) (.inr ⟨by omega, by omega, .inl rfl⟩)).mono ?_
  rintro e w9 ⟨rfl, hb9⟩
  replace Vi := Vi.step0 hb9
  replace Vc := Vc.step0 hb9
  replace Vt := Vt.step0 hb9
  replace Vx := Vx.step0 hb9
  replace Vr := Vr.step0 hb9
  go_wp2_with fail
  refine (kind_any s 1 (.iface 83 (.pointer (some (s 0)))) _ (hs.below (B := w.heap.size) (by (repeat' (first | (with_reducible exact Below.refl _ _) | (with_reducible refine below_drewN ?_ _) | (with_reducible refine Below.drew ?_) | (with_reducible refine Below.alloc ?_ ?_ _) | (with_reducible refine Below.setCell ?_ ?_ _) | (with_reducible refine Below.trans ?_ (Below.mono (by with_reducible assumption) ?_)) | omega | (simp only [World.size_alloc] at *; omega) | (with_reducible refine Below.size (B := 0) ?_)))) (Nat.le_refl _)) (.inr ⟨by omega, by omega, .inl rfl⟩)).mono ?_
  rintro e w10 ⟨rfl, hb10⟩
  replace Vi := Vi.step0 hb10
  replace Vc := Vc.step0 hb10
  replace Vt := Vt.step0 hb10
  replace Vx := Vx.step0 hb10
  replace Vr := Vr.step0 hb10
  go_wp2_with fail
  refine (kind_any s 1 (.iface 83 (.pointer (some (s 0)))) _ (hs.below (B := w.heap.size) (by (repeat' (first | (with_reducible exact Below.refl _ _) | (with_reducible refine below_drewN ?_ _) | (with_reducible refine Below.drew ?_) | (with_reducible refine Below.alloc ?_ ?_ _) | (with_reducible refine Below.setCell ?_ ?_ _) | (with_reducible refine Below.trans ?_ (Below.mono (by with_reducible assumption) ?_)) | omega | (simp only [World.size_alloc] at *; omega) | (with_reducible refine Below.size (B := 0) ?_)))) (Nat.le_refl _)) (.inr ⟨by omega, by omega, .inl rfl⟩)).mono ?_
  rintro e w11 ⟨rfl, hb11⟩
  replace Vi := Vi.step0 hb11
  replace Vc := Vc.step0 hb11
  replace Vt := Vt.step0 hb11
  replace Vx := Vx.step0 hb11
  replace Vr := Vr.step0 hb11
  clear Vi
  clear Vc
  obtain ⟨qt0, qt1, qt2, qt3, qtf, qtl⟩ := Vt.facts
  obtain ⟨qx0, qx1, qx2, qx3, qxf, qxl⟩ := Vx.facts
  obtain ⟨qr0, qr1, qr2, qr3, qrf, qrl⟩ := Vr.facts
  have hEE := hE.out
  go_wp2_with fail
  go_ret
  exact ⟨rfl, by (repeat' (first | (with_reducible exact Below.refl _ _) | (with_reducible refine below_drewN ?_ _) | (with_reducible refine Below.drew ?_) | (with_reducible refine Below.alloc ?_ ?_ _) | (with_reducible refine Below.setCell ?_ ?_ _) | (with_reducible refine Below.trans ?_ (Below.mono (by with_reducible assumption) ?_)) | omega | (simp only [World.size_alloc] at *; omega) | (with_reducible refine Below.size (B := 0) ?_)))⟩

set_option maxRecDepth 100000 in
set_option maxHeartbeats 3200000 in
theorem exact_t2 (s : Nat → Addr) (i m c : V4) (n : Int) (w : World) (hs : Sent s w) (ht : ETy w) (hc : (goodV c && ratB n) = true) (hi : goodV i = false) (h9 : (mayR i m c n).1 ≠ 9) :
    Calls Tryd.prog 3 #[.agg #[.int .i64 i.a, .int .i64 i.b, .int .i64 i.c, .int .i64 i.d], .agg #[.int .i64 m.a, .int .i64 m.b, .int .i64 m.c, .int .i64 m.d], .agg #[.int .i64 c.a, .int .i64 c.b, .int .i64 c.c, .int .i64 c.d], .int .i64 n] w fun e w' => e = .returned (.bool true) ∧ Below w.heap.size w w' := by
  have HT := Lib.hid (fun W h => top_ok s c n W h hc)
  have HX := Lib.hid (fun W h => exc_no s i c n W h (by rw [hi, Bool.false_and]))
  have HR := Lib.hid (fun W h => room_no s i c n W h (by rw [hi, Bool.false_and]))
  have HG := Lib.hid (fun W => rgood12_c c n W)
  rw [hc] at HG
  have HQ := Lib.hid (fun W => rtop_c c n W (Bool.and_eq_true_iff.1 hc).1 (Bool.and_eq_true_iff.1 hc).2)
  have HI := Lib.hid (fun W => rgood_c i W)
  rw [hi] at HI
  generalize topV c n = T at HT HQ
  have HM := Lib.hid (fun W h => may_not9 s i m c n W h h9)
  have HRM := Lib.hid (fun W => rmay_c i m c n W)
  have HK := Lib.hid (fun W h => kind_errV s (mayR i m c n).1 W h (may_le i m c n))
  generalize hk1 : (mayR i m c n).1 = k1 at HM HRM HK h9
  generalize (mayR i m c n).2 = k2 at HRM
  clear hk1
  have n9 : ((k1 : Int) == 9) = false := by rw [beq_eq_false_iff_ne]; omega
  clear h9
  clear hc hi
  have hE := Lib.hid eqV
  go_enter Tryd.func3, Tryd.ntmps3
  go_wp2_with fail
  refine (awake_c s _ (hs.below (B := w.heap.size) (by (repeat' (first | (with_reducible exact Below.refl _ _) | (with_reducible refine below_drewN ?_ _) | (with_reducible refine Below.drew ?_) | (with_reducible refine Below.alloc ?_ ?_ _) | (with_reducible refine Below.setCell ?_ ?_ _) | (with_reducible refine Below.trans ?_ (Below.mono (by with_reducible assumption) ?_)) | omega | (simp only [World.size_alloc] at *; omega) | (with_reducible refine Below.size (B := 0) ?_)))) (Nat.le_refl _)) (ht.below (B := w.heap.size) (by (repeat' (first | (with_reducible exact Below.refl _ _) | (with_reducible refine below_drewN ?_ _) | (with_reducible refine Below.drew ?_) | (with_reducible refine Below.alloc ?_ ?_ _) | (with_reducible refine Below.setCell ?_ ?_ _) | (with_reducible refine Below.trans ?_ (Below.mono (by with_reducible assumption) ?_)) | omega | (simp only [World.size_alloc] at *; omega) | (with_reducible refine Below.size (B := 0) ?_)))) (Nat.le_refl _))).mono ?_
  rintro e w1 ⟨rfl, hb1⟩
  have Vi : Vb w1 w.heap.size i := (((Vb.new w i).alloc _).alloc _).step0 hb1
  have Vm : Vb w1 (w.heap.size + 1) m := ((Vb.new_at (by simp) m).alloc _).step0 hb1
  have Vc : Vb w1 (w.heap.size + 1 + 1) c := (Vb.new_at (by simp) c).step0 hb1
  obtain ⟨qi0, qi1, qi2, qi3, qif, qil⟩ := Vi.facts
  obtain ⟨qm0, qm1, qm2, qm3, qmf, qml⟩ := Vm.facts
  obtain ⟨qc0, qc1, qc2, qc3, qcf, qcl⟩ := Vc.facts
  go_wp2_with fail
  refine (HM.out _ (hs.below (B := w.heap.size) (by (repeat' (first | (with_reducible exact Below.refl _ _) | (with_reducible refine below_drewN ?_ _) | (with_reducible refine Below.drew ?_) | (with_reducible refine Below.alloc ?_ ?_ _) | (with_reducible refine Below.setCell ?_ ?_ _) | (with_reducible refine Below.trans ?_ (Below.mono (by with_reducible assumption) ?_)) | omega | (simp only [World.size_alloc] at *; omega) | (with_reducible refine Below.size (B := 0) ?_)))) (Nat.le_refl _))).mono ?_
  rintro e w2 ⟨rfl, hb2⟩
  clear qi0 qi1 qi2 qi3 qif qil qm0 qm1 qm2 qm3 qmf qml qc0 qc1 qc2 qc3 qcf qcl
  replace Vi := Vi.step0 hb2
  replace Vm := Vm.step0 hb2
  replace Vc := Vc.step0 hb2
  obtain ⟨qi0, qi1, qi2, qi3, qif, qil⟩ := Vi.facts
  obtain ⟨qm0, qm1, qm2, qm3, qmf, qml⟩ := Vm.facts
  obtain ⟨qc0, qc1, qc2, qc3, qcf, qcl⟩ := Vc.facts
  go_wp2_with fail
  refine (HRM.out _).mono ?_
  rintro e w3 ⟨rfl, hb3⟩
  clear qi0 qi1 qi2 qi3 qif qil qm0 qm1 qm2 qm3 qmf qml qc0 qc1 qc2 qc3 qcf qcl
  replace Vi := Vi.step0 hb3
  replace Vm := Vm.step0 hb3
  replace Vc := Vc.step0 hb3
  go_wp2_with fail
  refine (HK.out _ (hs.below (B := w.heap.size) (by (repeat' (first | (with_reducible exact Below.refl _ _) | (with_reducible refine below_drewN ?_ _) | (with_reducible refine Below.drew ?_) | (with_reducible refine Below.alloc ?_ ?_ _) | (with_reducible refine Below.setCell ?_ ?_ _) | (with_reducible refine Below.trans ?_ (Below.mono (by with_reducible assumption) ?_)) | omega | (simp only [World.size_alloc] at *; omega) | (with_reducible refine Below.size (B := 0) ?_)))) (Nat.le_refl _))).mono ?_
  rintro e w4 ⟨rfl, hb4⟩
  replace Vi := Vi.step0 hb4
  replace Vm := Vm.step0 hb4
  replace Vc := Vc.step0 hb4
  clear Vm
  obtain ⟨qc0, qc1, qc2, qc3, qcf, qcl⟩ := Vc.facts
  go_wp2_with fail
  refine (HT.out _ (hs.below (B := w.heap.size) (by (repeat' (first | (with_reducible exact Below.refl _ _) | (with_reducible refine below_drewN ?_ _) | (with_reducible refine Below.drew ?_) | (with_reducible refine Below.alloc ?_ ?_ _) | (with_reducible refine Below.setCell ?_ ?_ _) | (with_reducible refine Below.trans ?_ (Below.mono (by with_reducible assumption) ?_)) | omega | (simp only [World.size_alloc] at *; omega) | (with_reducible refine Below.size (B := 0) ?_)))) (Nat.le_refl _))).mono ?_
  rintro e w5 ⟨rfl, hb5⟩
  clear qc0 qc1 qc2 qc3 qcf qcl
  replace Vi := Vi.step0 hb5
  replace Vc := Vc.step0 hb5
  obtain ⟨qi0, qi1, qi2, qi3, qif, qil⟩ := Vi.facts
  obtain ⟨qc0, qc1, qc2, qc3, qcf, qcl⟩ := Vc.facts
  go_wp2_with fail
  refine (HX.out _ (hs.below (B := w.heap.size) (by (repeat' (first | (with_reducible exact Below.refl _ _) | (with_reducible refine below_drewN ?_ _) | (with_reducible refine Below.drew ?_) | (with_reducible refine Below.alloc ?_ ?_ _) | (with_reducible refine Below.setCell ?_ ?_ _) | (with_reducible refine Below.trans ?_ (Below.mono (by with_reducible assumption) ?_)) | omega | (simp only [World.size_alloc] at *; omega) | (with_reducible refine Below.size (B := 0) ?_)))) (Nat.le_refl _))).mono ?_
  rintro e w6 ⟨rfl, hb6⟩
  clear qi0 qi1 qi2 qi3 qif qil qc0 qc1 qc2 qc3 qcf qcl
  replace Vi := Vi.step hb6
  replace Vc := Vc.step hb6
  have Vt := Vb.fresh T hb6
  obtain ⟨qi0, qi1, qi2, qi3, qif, qil⟩ := Vi.facts
  obtain ⟨qc0, qc1, qc2, qc3, qcf, qcl⟩ := Vc.facts
  go_wp2_with fail
  refine (HR.out _ (hs.below (B := w.heap.size) (by (repeat' (first | (with_reducible exact Below.refl _ _) | (with_reducible refine below_drewN ?_ _) | (with_reducible refine Below.drew ?_) | (with_reducible refine Below.alloc ?_ ?_ _) | (with_reducible refine Below.setCell ?_ ?_ _) | (with_reducible refine Below.trans ?_ (Below.mono (by with_reducible assumption) ?_)) | omega | (simp only [World.size_alloc] at *; omega) | (with_reducible refine Below.size (B := 0) ?_)))) (Nat.le_refl _))).mono ?_
  rintro e w7 ⟨rfl, hb7⟩
  clear qi0 qi1 qi2 qi3 qif qil qc0 qc1 qc2 qc3 qcf qcl
  replace Vi := Vi.step hb7
  replace Vc := Vc.step hb7
  replace Vt := Vt.step hb7
  have Vx := Vb.fresh ⟨0, 0, 0, 0⟩ hb7
  obtain ⟨qc0, qc1, qc2, qc3, qcf, qcl⟩ := Vc.facts
  go_wp2_with fail
  refine (HG.out _).mono ?_
  rintro e w8 ⟨rfl, hb8⟩
  clear qc0 qc1 qc2 qc3 qcf qcl
  replace Vi := Vi.step hb8
  replace Vc := Vc.step hb8
  replace Vt := Vt.step hb8
  replace Vx := Vx.step hb8
  have Vr := Vb.fresh ⟨0, 0, 0, 0⟩ hb8
  obtain ⟨qc0, qc1, qc2, qc3, qcf, qcl⟩ := Vc.facts
  go_wp2_with fail
  refine (HQ.out _).mono ?_
  rintro e w9 ⟨rfl, hb9⟩
  clear qc0 qc1 qc2 qc3 qcf qcl
  replace Vi := Vi.step0 hb9
  replace Vc := Vc.step0 hb9
  replace Vt := Vt.step0 hb9
  replace Vx := Vx.step0 hb9
  replace Vr := Vr.step0 hb9
  obtain ⟨qt0, qt1, qt2, qt3, qtf, qtl⟩ := Vt.facts
  obtain ⟨qi0, qi1, qi2, qi3, qif, qil⟩ := Vi.facts
  have hEE := hE.out
  go_wp2_with fail
  refine (HI.out _).mono ?_
  rintro e w10 ⟨rfl, hb10⟩
  clear qt0 qt1 qt2 qt3 qtf qtl qi0 qi1 qi2 qi3 qif qil
  replace Vi := Vi.step hb10
  replace Vc := Vc.step hb10
  replace Vt := Vt.step hb10
  replace Vx := Vx.step hb10
  replace Vr := Vr.step hb10
  have Vq := Vb.fresh T hb10
  clear hEE
  clear Vt
  clear Vq
  clear Vi
  clear Vc
  go_wp2_with fail
  refine (kind_any s 1 (.iface 83 (.pointer (some (s 0)))) _ (hs.below (B := w.heap.size) (by (repeat' (first | (with_reducible exact Below.refl _ _) | (with_reducible refine below_drewN ?_ _) | (with_reducible refine Below.drew ?_) | (with_reducible refine Below.alloc ?_ ?_ _) | (with_reducible refine Below.setCell ?_ ?_ _) | (with_reducible refine Below.trans ?_ (Below.mono (by with_reducible assumption) ?_)) | omega | (simp only [World.size_alloc] at *; omega) | (with_reducible refine Below.size (B := 0) ?_)))) (Nat.le_refl _)) (.inr ⟨by omega, by omega, .inl rfl⟩)).mono ?_
  rintro e w11 ⟨rfl, hb11⟩
  replace Vx := Vx.step0 hb11
  replace Vr := Vr.step0 hb11
  go_wp2_with fail
  refine (kind_any s 1 (.iface 83 (.pointer (some (s 0)))) _ (hs.below (B := w.heap.size) (by (repeat' (first | (with_reducible exact Below.refl _ _) | (with_reducible refine below_drewN ?_ _) | (with_reducible refine Below.drew ?_) | (with_reducible refine Below.alloc ?_ ?_ _) | (with_reducible refine Below.setCell ?_ ?_ _) | (with_reducible refine Below.trans ?_ (Below.mono (by with_reducible assumption) ?_)) | omega | (simp only [World.size_alloc] at *; omega) | (with_reducible refine Below.size (B := 0) ?_)))) (Nat.le_refl _)) (.inr ⟨by omega, by omega, .inl rfl⟩)).mono ?_
  rintro e w12 ⟨rfl, hb12⟩
  replace Vx := Vx.step0 hb12
  replace Vr := Vr.step0 hb12
  obtain ⟨qx0, qx1, qx2, qx3, qxf, qxl⟩ := Vx.facts
  obtain ⟨qr0, qr1, qr2, qr3, qrf, qrl⟩ := Vr.facts
  have hEE := hE.out
  go_wp2_with fail
  go_ret
  exact ⟨rfl, by (repeat' (first | (with_reducible exact Below.refl _ _) | (with_reducible refine below_drewN ?_ _) | (with_reducible refine Below.drew ?_) | (with_reducible refine Below.alloc ?_ ?_ _) | (with_reducible refine Below.setCell ?_ ?_ _) | (with_reducible refine Below.trans ?_ (Below.mono (by with_reducible assumption) ?_)) | omega | (simp only [World.size_alloc] at *; omega) | (with_reducible refine Below.size (B := 0) ?_)))⟩
end Go.Proofs.YtmimlniofhngjaaDoor
