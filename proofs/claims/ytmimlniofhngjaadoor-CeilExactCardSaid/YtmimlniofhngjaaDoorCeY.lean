/- The walk of the law CeilExact: whatever the arguments, it returns true. Condition: the package variables lie as the program's text lays them. -/
import Derived.Test.YtmimlniofhngjaaDoorCeX
import Derived.Deep.QuietTactic
namespace Go.Proofs.YtmimlniofhngjaaDoor
open Go Go.RowKit

set_option maxRecDepth 100000 in
set_option maxHeartbeats 3200000 in
theorem exact_t3 (s : Nat → Addr) (i m c : V4) (n : Int) (w : World) (hs : Sent s w) (ht : ETy w) (hc : (goodV c && ratB n) = true) (hi : goodV i = true) (h9 : (mayR i m c n).1 ≠ 9) :
    Calls Tryd.prog 3 #[.agg #[.int .i64 i.a, .int .i64 i.b, .int .i64 i.c, .int .i64 i.d], .agg #[.int .i64 m.a, .int .i64 m.b, .int .i64 m.c, .int .i64 m.d], .agg #[.int .i64 c.a, .int .i64 c.b, .int .i64 c.c, .int .i64 c.d], .int .i64 n] w fun e w' => e = .returned (.bool true) ∧ Below w.heap.size w w' := by
  have HT := Lib.hid (fun W h => top_ok s c n W h hc)
  obtain ⟨gc, gr⟩ := Bool.and_eq_true_iff.1 hc
  have HX := Lib.hid (fun W h => exc_ok s i c n W h hi gc gr)
  have HR := Lib.hid (fun W h => room_ok s i c n W h hi gc gr)
  have HG := Lib.hid (fun W => rgood12_c c n W)
  rw [hc] at HG
  have HQ := Lib.hid (fun W => rtop_c c n W gc gr)
  have HI := Lib.hid (fun W => rgood_c i W)
  rw [hi] at HI
  have GT := Lib.hid ((good_iff _).1 (topV_good gc gr))
  have GI := Lib.hid ((good_iff i).1 hi)
  generalize topV c n = T at HT HQ HX HR GT
  have HM := Lib.hid (fun W h => may_not9 s i m c n W h h9)
  have HRM := Lib.hid (fun W => rmay_c i m c n W)
  have HK := Lib.hid (fun W h => kind_errV s (mayR i m c n).1 W h (may_le i m c n))
  generalize hk1 : (mayR i m c n).1 = k1 at HM HRM HK h9
  generalize (mayR i m c n).2 = k2 at HRM
  clear hk1
  have n9 : ((k1 : Int) == 9) = false := by rw [beq_eq_false_iff_ne]; omega
  clear h9
  clear hc hi gc gr
  have hE := Lib.hid eqV
  go_enter Tryd.func3, Tryd.ntmps3
  go_wp2_with fail
  refine (awake_c s _ (hs.below (B := w.heap.size) (by (repeat' (first | (with_reducible exact Below.refl _ _) | (with_reducible refine below_drewN ?_ _) | (with_reducible refine Below.drew ?_) | (with_reducible refine Below.alloc ?_ ?_ _) | (with_reducible refine Below.setCell ?_ ?_ _) | (with_reducible refine Below.trans ?_ (Below.mono (by with_reducible assumption) ?_)) | omega | (simp only [World.size_alloc] at *; omega) | (with_reducible refine Below.size (B := 0) ?_)))) (Nat.le_refl _)) (ht.below (B := w.heap.size) (by (repeat' (first | (with_reducible exact Below.refl _ _) | (with_reducible refine below_drewN ?_ _) | (with_reducible refine Below.drew ?_) | (with_reducible refine Below.alloc ?_ ?_ _) | (with_reducible refine Below.setCell ?_ ?_ _) | (with_reducible refine Below.trans ?_ (Below.mono (by with_reducible assumption) ?_)) | omega | (simp only [World.size_alloc] at *; omega) | (with_reducible refine Below.size (B := 0) ?_)))) (Nat.le_refl _))).mono ?_
  rintro e w1 ⟨rfl, hb1⟩
  have Vi : Vb w1 w.heap.size i := (((Vb.new w i).alloc _).alloc _).step0 hb1
  have Vm : Vb w1 (w.heap.size + 1) m := ((Vb.new_at (by simp) m).alloc _).step0 hb1
  have Vc : Vb w1 (w.heap.size + 1 + 1) c := (Vb.new_at (by simp) c).step0 hb1
  obtain ⟨qi0, qi1, qi2, qi3, qif, qil⟩ := Vi.facts
  obtain ⟨qm0, qm1, qm2, qm3, qmf, qml⟩ := Vm.facts
  obtain ⟨qc0, qc1, qc2, qc3, qcf, qcl⟩ := Vc.facts
  go_wp2_with fail
  refine (HM.out _ (hs.below (B := w.heap.size) (by (repeat' (first | (with_reducible exact Below.refl _ _) | (with_reducible refine below_drewN ?_ _) | (with_reducible refine Below.drew ?_) | (with_reducible refine Below.alloc ?_ ?_ _) | (with_reducible refine Below.setCell ?_ ?_ _) | (with_reducible refine Below.trans ?_ (Below.mono (by with_reducible assumption) ?_)) | omega | (simp only [World.size_alloc] at *; omega) | (with_reducible refine Below.size (B := 0) ?_)))) (Nat.le_refl _))).mono ?_
  rintro e w2 ⟨rfl, hb2⟩
  clear qi0 qi1 qi2 qi3 qif qil qm0 qm1 qm2 qm3 qmf qml qc0 qc1 qc2 qc3 qcf qcl
  replace Vi := Vi.step0 hb2
  replace Vm := Vm.step0 hb2
  replace Vc := Vc.step0 hb2
  obtain ⟨qi0, qi1, qi2, qi3, qif, qil⟩ := Vi.facts
  obtain ⟨qm0, qm1, qm2, qm3, qmf, qml⟩ := Vm.facts
  obtain ⟨qc0, qc1, qc2, qc3, qcf, qcl⟩ := Vc.facts
  go_wp2_with fail
  refine (HRM.out _).mono ?_
  rintro e w3 ⟨rfl, hb3⟩
  clear qi0 qi1 qi2 qi3 qif qil qm0 qm1 qm2 qm3 qmf qml qc0 qc1 qc2 qc3 qcf qcl
  replace Vi := Vi.step0 hb3
  replace Vm := Vm.step0 hb3
  replace Vc := Vc.step0 hb3
  go_wp2_with fail
  refine (HK.out _ (hs.below (B := w.heap.size) (by (repeat' (first | (with_reducible exact Below.refl _ _) | (with_reducible refine below_drewN ?_ _) | (with_reducible refine Below.drew ?_) | (with_reducible refine Below.alloc ?_ ?_ _) | (with_reducible refine Below.setCell ?_ ?_ _) | (with_reducible refine Below.trans ?_ (Below.mono (by with_reducible assumption) ?_)) | omega | (simp only [World.size_alloc] at *; omega) | (with_reducible refine Below.size (B := 0) ?_)))) (Nat.le_refl _))).mono ?_
  rintro e w4 ⟨rfl, hb4⟩
  replace Vi := Vi.step0 hb4
  replace Vm := Vm.step0 hb4
  replace Vc := Vc.step0 hb4
  clear Vm
  obtain ⟨qc0, qc1, qc2, qc3, qcf, qcl⟩ := Vc.facts
  go_wp2_with fail
  refine (HT.out _ (hs.below (B := w.heap.size) (by (repeat' (first | (with_reducible exact Below.refl _ _) | (with_reducible refine below_drewN ?_ _) | (with_reducible refine Below.drew ?_) | (with_reducible refine Below.alloc ?_ ?_ _) | (with_reducible refine Below.setCell ?_ ?_ _) | (with_reducible refine Below.trans ?_ (Below.mono (by with_reducible assumption) ?_)) | omega | (simp only [World.size_alloc] at *; omega) | (with_reducible refine Below.size (B := 0) ?_)))) (Nat.le_refl _))).mono ?_
  rintro e w5 ⟨rfl, hb5⟩
  clear qc0 qc1 qc2 qc3 qcf qcl
  replace Vi := Vi.step0 hb5
  replace Vc := Vc.step0 hb5
  obtain ⟨qi0, qi1, qi2, qi3, qif, qil⟩ := Vi.facts
  obtain ⟨qc0, qc1, qc2, qc3, qcf, qcl⟩ := Vc.facts
  go_wp2_with fail
  refine (HX.out _ (hs.below (B := w.heap.size) (by (repeat' (first | (with_reducible exact Below.refl _ _) | (with_reducible refine below_drewN ?_ _) | (with_reducible refine Below.drew ?_) | (with_reducible refine Below.alloc ?_ ?_ _) | (with_reducible refine Below.setCell ?_ ?_ _) | (with_reducible refine Below.trans ?_ (Below.mono (by with_reducible assumption) ?_)) | omega | (simp only [World.size_alloc] at *; omega) | (with_reducible refine Below.size (B := 0) ?_)))) (Nat.le_refl _))).mono ?_
  rintro e w6 ⟨rfl, hb6⟩
  clear qi0 qi1 qi2 qi3 qif qil qc0 qc1 qc2 qc3 qcf qcl
  replace Vi := Vi.step hb6
  replace Vc := Vc.step hb6
  have Vt := Vb.fresh T hb6
  obtain ⟨qi0, qi1, qi2, qi3, qif, qil⟩ := Vi.facts
  obtain ⟨qc0, qc1, qc2, qc3, qcf, qcl⟩ := Vc.facts
  go_wp2_with fail
  refine (HR.out _ (hs.below (B := w.heap.size) (by (repeat' (first | (with_reducible exact Below.refl _ _) | (with_reducible refine below_drewN ?_ _) | (with_reducible refine Below.drew ?_) | (with_reducible refine Below.alloc ?_ ?_ _) | (with_reducible refine Below.setCell ?_ ?_ _) | (with_reducible refine Below.trans ?_ (Below.mono (by with_reducible assumption) ?_)) | omega | (simp only [World.size_alloc] at *; omega) | (with_reducible refine Below.size (B := 0) ?_)))) (Nat.le_refl _))).mono ?_
  rintro e w7 ⟨rfl, hb7⟩
  clear qi0 qi1 qi2 qi3 qif qil qc0 qc1 qc2 qc3 qcf qcl
  replace Vi := Vi.step hb7
  replace Vc := Vc.step hb7
  replace Vt := Vt.step hb7
  have Vx := Vb.fresh (overV i T) hb7
  obtain ⟨qc0, qc1, qc2, qc3, qcf, qcl⟩ := Vc.facts
  go_wp2_with fail
  refine (HG.out _).mono ?_
  rintro e w8 ⟨rfl, hb8⟩
  clear qc0 qc1 qc2 qc3 qcf qcl
  replace Vi := Vi.step hb8
  replace Vc := Vc.step hb8
  replace Vt := Vt.step hb8
  replace Vx := Vx.step hb8
  have Vr := Vb.fresh (overV T i) hb8
  obtain ⟨qc0, qc1, qc2, qc3, qcf, qcl⟩ := Vc.facts
  go_wp2_with fail
  refine (HQ.out _).mono ?_
  rintro e w9 ⟨rfl, hb9⟩
  clear qc0 qc1 qc2 qc3 qcf qcl
  replace Vi := Vi.step0 hb9
  replace Vc := Vc.step0 hb9
  replace Vt := Vt.step0 hb9
  replace Vx := Vx.step0 hb9
  replace Vr := Vr.step0 hb9
  obtain ⟨qt0, qt1, qt2, qt3, qtf, qtl⟩ := Vt.facts
  obtain ⟨qi0, qi1, qi2, qi3, qif, qil⟩ := Vi.facts
  have hEE := hE.out
  go_wp2_with fail
  refine (HI.out _).mono ?_
  rintro e w10 ⟨rfl, hb10⟩
  clear qt0 qt1 qt2 qt3 qtf qtl qi0 qi1 qi2 qi3 qif qil
  replace Vi := Vi.step hb10
  replace Vc := Vc.step hb10
  replace Vt := Vt.step hb10
  replace Vx := Vx.step hb10
  replace Vr := Vr.step hb10
  have Vq := Vb.fresh T hb10
  clear hEE
  clear Vt
  clear Vc
  have KH : Hid (Below w.heap.size w w10) := Lib.hid (by (repeat' (first | (with_reducible exact Below.refl _ _) | (with_reducible refine below_drewN ?_ _) | (with_reducible refine Below.drew ?_) | (with_reducible refine Below.alloc ?_ ?_ _) | (with_reducible refine Below.setCell ?_ ?_ _) | (with_reducible refine Below.trans ?_ (Below.mono (by with_reducible assumption) ?_)) | omega | (simp only [World.size_alloc] at *; omega) | (with_reducible refine Below.size (B := 0) ?_))))
  clear hb1 hb2 hb3 hb4 hb5 hb6 hb7 hb8 hb9 hb10
  obtain ⟨qx0, qx1, qx2, qx3, qxf, qxl⟩ := Vx.facts
  obtain ⟨qr0, qr1, qr2, qr3, qrf, qrl⟩ := Vr.facts
  obtain ⟨qi0, qi1, qi2, qi3, qif, qil⟩ := Vi.facts
  obtain ⟨qq0, qq1, qq2, qq3, qqf, qql⟩ := Vq.facts
  clear Vx
  clear Vr
  clear Vi
  clear Vq
  clear hE HT HX HR HG HQ HI
  obtain ⟨⟨g0, g0'⟩, ⟨g1, g1'⟩, ⟨g2, g2'⟩, ⟨g3, g3'⟩⟩ := GI.out
  obtain ⟨⟨t0, t0'⟩, ⟨t1, t1'⟩, ⟨t2, t2'⟩, ⟨t3, t3'⟩⟩ := GT.out
  clear GI GT
  simp only [overV] at qx0 qx1 qx2 qx3 qr0 qr1 qr2 qr3
  have e0 : ∀ (ts : Array TypeId) (t : TypeId) (W : World), (Builtin.max_ ts t #[.int .i64 (i.a - T.a), .int .i64 0]).run Tryd.prog W = .ok (.int .i64 (atLeast0 (i.a - T.a))) W := fun _ _ _ => run_max_int2 _ _ _ _ _ _ _
  have f0 : ∀ (ts : Array TypeId) (t : TypeId) (W : World), (Builtin.max_ ts t #[.int .i64 (T.a - i.a), .int .i64 0]).run Tryd.prog W = .ok (.int .i64 (atLeast0 (T.a - i.a))) W := fun _ _ _ => run_max_int2 _ _ _ _ _ _ _
  have u0 : IntKind.i64.wrap (i.a - T.a) = i.a - T.a := IntWalk.i64_in _ (by omega)
  have v0 : IntKind.i64.wrap (T.a - i.a) = T.a - i.a := IntWalk.i64_in _ (by omega)
  have e1 : ∀ (ts : Array TypeId) (t : TypeId) (W : World), (Builtin.max_ ts t #[.int .i64 (i.b - T.b), .int .i64 0]).run Tryd.prog W = .ok (.int .i64 (atLeast0 (i.b - T.b))) W := fun _ _ _ => run_max_int2 _ _ _ _ _ _ _
  have f1 : ∀ (ts : Array TypeId) (t : TypeId) (W : World), (Builtin.max_ ts t #[.int .i64 (T.b - i.b), .int .i64 0]).run Tryd.prog W = .ok (.int .i64 (atLeast0 (T.b - i.b))) W := fun _ _ _ => run_max_int2 _ _ _ _ _ _ _
  have u1 : IntKind.i64.wrap (i.b - T.b) = i.b - T.b := IntWalk.i64_in _ (by omega)
  have v1 : IntKind.i64.wrap (T.b - i.b) = T.b - i.b := IntWalk.i64_in _ (by omega)
  have e2 : ∀ (ts : Array TypeId) (t : TypeId) (W : World), (Builtin.max_ ts t #[.int .i64 (i.c - T.c), .int .i64 0]).run Tryd.prog W = .ok (.int .i64 (atLeast0 (i.c - T.c))) W := fun _ _ _ => run_max_int2 _ _ _ _ _ _ _
  have f2 : ∀ (ts : Array TypeId) (t : TypeId) (W : World), (Builtin.max_ ts t #[.int .i64 (T.c - i.c), .int .i64 0]).run Tryd.prog W = .ok (.int .i64 (atLeast0 (T.c - i.c))) W := fun _ _ _ => run_max_int2 _ _ _ _ _ _ _
  have u2 : IntKind.i64.wrap (i.c - T.c) = i.c - T.c := IntWalk.i64_in _ (by omega)
  have v2 : IntKind.i64.wrap (T.c - i.c) = T.c - i.c := IntWalk.i64_in _ (by omega)
  have e3 : ∀ (ts : Array TypeId) (t : TypeId) (W : World), (Builtin.max_ ts t #[.int .i64 (i.d - T.d), .int .i64 0]).run Tryd.prog W = .ok (.int .i64 (atLeast0 (i.d - T.d))) W := fun _ _ _ => run_max_int2 _ _ _ _ _ _ _
  have f3 : ∀ (ts : Array TypeId) (t : TypeId) (W : World), (Builtin.max_ ts t #[.int .i64 (T.d - i.d), .int .i64 0]).run Tryd.prog W = .ok (.int .i64 (atLeast0 (T.d - i.d))) W := fun _ _ _ => run_max_int2 _ _ _ _ _ _ _
  have u3 : IntKind.i64.wrap (i.d - T.d) = i.d - T.d := IntWalk.i64_in _ (by omega)
  have v3 : IntKind.i64.wrap (T.d - i.d) = T.d - i.d := IntWalk.i64_in _ (by omega)
  go_wp2_with fail
  refine wp_loop_rounds 5 ?_
  rw [rounds_succ]
  go_wp2_with fail
  go_quiet (fail)
  go_wp2_with fail
  rw [rounds_succ]
  go_wp2_with fail
  go_quiet (fail)
  go_wp2_with fail
  rw [rounds_succ]
  go_wp2_with fail
  go_quiet (fail)
  go_wp2_with fail
  rw [rounds_succ]
  go_wp2_with fail
  go_quiet (fail)
  go_wp2_with fail
  rw [rounds_succ]
  go_wp2_with fail
  go_ret
  exact ⟨rfl, KH.out.trans (Below.mono (B := w10.heap.size) (by (repeat' (first | (with_reducible exact Below.refl _ _) | (with_reducible refine below_drewN ?_ _) | (with_reducible refine Below.drew ?_) | (with_reducible refine Below.alloc ?_ ?_ _) | (with_reducible refine Below.setCell ?_ ?_ _) | (with_reducible refine Below.trans ?_ (Below.mono (by with_reducible assumption) ?_)) | omega | (simp only [World.size_alloc, World.size_setCell, World.size_drew, Go.Proofs.YtmimlniofhngjaaDoor.World.size_drewN] at *; omega) | (with_reducible refine Below.size (B := 0) ?_)))) (by have := KH.out.size; omega))⟩

set_option maxRecDepth 100000 in
set_option maxHeartbeats 3200000 in
theorem exact_t9 (s : Nat → Addr) (i m c : V4) (n : Int) (w : World) (hs : Sent s w) (ht : ETy w) (hc : (goodV c && ratB n) = true) (hi : goodV i = true) {k : Nat} (hk : mayR i m c n = (9, k)) :
    Calls Tryd.prog 3 #[.agg #[.int .i64 i.a, .int .i64 i.b, .int .i64 i.c, .int .i64 i.d], .agg #[.int .i64 m.a, .int .i64 m.b, .int .i64 m.c, .int .i64 m.d], .agg #[.int .i64 c.a, .int .i64 c.b, .int .i64 c.c, .int .i64 c.d], .int .i64 n] w fun e w' => e = .returned (.bool true) ∧ Below w.heap.size w w' := by
  have HT := Lib.hid (fun W h => top_ok s c n W h hc)
  obtain ⟨gc, gr⟩ := Bool.and_eq_true_iff.1 hc
  have HX := Lib.hid (fun W h => exc_ok s i c n W h hi gc gr)
  have HR := Lib.hid (fun W h => room_ok s i c n W h hi gc gr)
  have HG := Lib.hid (fun W => rgood12_c c n W)
  rw [hc] at HG
  have HQ := Lib.hid (fun W => rtop_c c n W gc gr)
  have HI := Lib.hid (fun W => rgood_c i W)
  rw [hi] at HI
  have GT := Lib.hid ((good_iff _).1 (topV_good gc gr))
  have GI := Lib.hid ((good_iff i).1 hi)
  generalize topV c n = T at HT HQ HX HR GT
  have HM := Lib.hid (fun W h => may_flt s i m c n W h hk)
  have HRM := Lib.hid (fun W => rmay_c i m c n W)
  rw [hk] at HRM
  clear hc hi gc gr hk
  have hE := Lib.hid eqV
  have HTY := Lib.hid ht
  have HSI := Lib.hid hs
  go_enter Tryd.func3, Tryd.ntmps3
  go_wp2_with fail
  refine (awake_c s _ (hs.below (B := w.heap.size) (by (repeat' (first | (with_reducible exact Below.refl _ _) | (with_reducible refine below_drewN ?_ _) | (with_reducible refine Below.drew ?_) | (with_reducible refine Below.alloc ?_ ?_ _) | (with_reducible refine Below.setCell ?_ ?_ _) | (with_reducible refine Below.trans ?_ (Below.mono (by with_reducible assumption) ?_)) | omega | (simp only [World.size_alloc] at *; omega) | (with_reducible refine Below.size (B := 0) ?_)))) (Nat.le_refl _)) (ht.below (B := w.heap.size) (by (repeat' (first | (with_reducible exact Below.refl _ _) | (with_reducible refine below_drewN ?_ _) | (with_reducible refine Below.drew ?_) | (with_reducible refine Below.alloc ?_ ?_ _) | (with_reducible refine Below.setCell ?_ ?_ _) | (with_reducible refine Below.trans ?_ (Below.mono (by with_reducible assumption) ?_)) | omega | (simp only [World.size_alloc] at *; omega) | (with_reducible refine Below.size (B := 0) ?_)))) (Nat.le_refl _))).mono ?_
  rintro e w1 ⟨rfl, hb1⟩
  have Vi : Vb w1 w.heap.size i := (((Vb.new w i).alloc _).alloc _).step0 hb1
  have Vm : Vb w1 (w.heap.size + 1) m := ((Vb.new_at (by simp) m).alloc _).step0 hb1
  have Vc : Vb w1 (w.heap.size + 1 + 1) c := (Vb.new_at (by simp) c).step0 hb1
  obtain ⟨qi0, qi1, qi2, qi3, qif, qil⟩ := Vi.facts
  obtain ⟨qm0, qm1, qm2, qm3, qmf, qml⟩ := Vm.facts
  obtain ⟨qc0, qc1, qc2, qc3, qcf, qcl⟩ := Vc.facts
  go_wp2_with fail
  refine (HM.out _ (hs.below (B := w.heap.size) (by (repeat' (first | (with_reducible exact Below.refl _ _) | (with_reducible refine below_drewN ?_ _) | (with_reducible refine Below.drew ?_) | (with_reducible refine Below.alloc ?_ ?_ _) | (with_reducible refine Below.setCell ?_ ?_ _) | (with_reducible refine Below.trans ?_ (Below.mono (by with_reducible assumption) ?_)) | omega | (simp only [World.size_alloc] at *; omega) | (with_reducible refine Below.size (B := 0) ?_)))) (Nat.le_refl _))).mono ?_
  rintro e w2 ⟨⟨g, rfl, hg⟩, hb2⟩
  clear qi0 qi1 qi2 qi3 qif qil qm0 qm1 qm2 qm3 qmf qml qc0 qc1 qc2 qc3 qcf qcl
  replace Vi := Vi.step0 hb2
  replace Vm := Vm.step0 hb2
  replace Vc := Vc.step0 hb2
  obtain ⟨qi0, qi1, qi2, qi3, qif, qil⟩ := Vi.facts
  obtain ⟨qm0, qm1, qm2, qm3, qmf, qml⟩ := Vm.facts
  obtain ⟨qc0, qc1, qc2, qc3, qcf, qcl⟩ := Vc.facts
  go_wp2_with fail
  refine (HRM.out _).mono ?_
  rintro e w3 ⟨rfl, hb3⟩
  clear qi0 qi1 qi2 qi3 qif qil qm0 qm1 qm2 qm3 qmf qml qc0 qc1 qc2 qc3 qcf qcl
  replace Vi := Vi.step0 hb3
  replace Vm := Vm.step0 hb3
  replace Vc := Vc.step0 hb3
  replace hg := (hb3.block g (lt_of_row hg)).trans hg
  go_wp2_with fail
  refine (kind_any s 9 (.iface 31 (.pointer (some ⟨g, 0, none⟩))) _ (hs.below (B := w.heap.size) (by (repeat' (first | (with_reducible exact Below.refl _ _) | (with_reducible refine below_drewN ?_ _) | (with_reducible refine Below.drew ?_) | (with_reducible refine Below.alloc ?_ ?_ _) | (with_reducible refine Below.setCell ?_ ?_ _) | (with_reducible refine Below.trans ?_ (Below.mono (by with_reducible assumption) ?_)) | omega | (simp only [World.size_alloc] at *; omega) | (with_reducible refine Below.size (B := 0) ?_)))) (Nat.le_refl _)) (.inr ⟨by omega, by omega, .inr ⟨g, 0, rfl, cell_of_heap hg 2⟩⟩)).mono ?_
  rintro e w4 ⟨rfl, hb4⟩
  replace Vi := Vi.step0 hb4
  replace Vm := Vm.step0 hb4
  replace Vc := Vc.step0 hb4
  replace hg := (hb4.block g (lt_of_row hg)).trans hg
  clear Vm
  go_wp2_with fail
  refine (as_fault ⟨g, 0, none⟩ ⟨w4.heap.size, 0, none⟩ (.pointer none) _ (HTY.out.below (B := w.heap.size) (by (repeat' (first | (with_reducible exact Below.refl _ _) | (with_reducible refine below_drewN ?_ _) | (with_reducible refine Below.drew ?_) | (with_reducible refine Below.alloc ?_ ?_ _) | (with_reducible refine Below.setCell ?_ ?_ _) | (with_reducible refine Below.trans ?_ (Below.mono (by with_reducible assumption) ?_)) | omega | (simp only [World.size_alloc] at *; omega) | (with_reducible refine Below.size (B := 0) ?_)))) (Nat.le_refl _)) (by simp) (by simp)).mono ?_
  rintro e w7 ⟨rfl, w6, hb6, rfl⟩
  have gl := lt_of_row hg
  have x6 : w6.cell? ⟨w4.heap.size, 0, none⟩ = some (.pointer none) := (hb6.cell (p := ⟨w4.heap.size, 0, none⟩) (by simp)).trans (by simp)
  have hg6 := (hb6.block g (by simp; omega)).trans ((Below.heap_alloc w4 _ g gl).trans hg)
  have p0 : w6.cell? ⟨g, 0, none⟩ = some (.string ⟨#[99, 101, 105, 108]⟩) := cell_of_heap hg6 0
  have p1 : w6.cell? ⟨g, 1, none⟩ = some (.int .i64 (k : Int)) := cell_of_heap hg6 1
  have hne : ¬ (w4.heap.size = g) := by omega
  have hne' : ¬ (g = w4.heap.size) := by omega
  have li := lt_of_row Vi
  have lc := lt_of_row Vc
  have nc : ¬ (w4.heap.size = w.heap.size + 1 + 1) := by omega
  have nc' : ¬ (w.heap.size + 1 + 1 = w4.heap.size) := by omega
  replace Vi := Vi.step hb6
  replace Vc := Vc.step hb6
  clear hg hg6
  obtain ⟨qc0, qc1, qc2, qc3, qcf, qcl⟩ := Vc.facts
  go_wp2_with fail
  replace Vi := Vi.far (p := ⟨w4.heap.size, 0, none⟩) (by show w.heap.size ≠ w4.heap.size; omega) (.pointer (some ⟨g, 0, none⟩))
  replace Vc := Vc.far (p := ⟨w4.heap.size, 0, none⟩) (by show w.heap.size + 1 + 1 ≠ w4.heap.size; omega) (.pointer (some ⟨g, 0, none⟩))
  refine (HT.out _ (hs.below (B := w.heap.size) (by (repeat' (first | (with_reducible exact Below.refl _ _) | (with_reducible refine below_drewN ?_ _) | (with_reducible refine Below.drew ?_) | (with_reducible refine Below.alloc ?_ ?_ _) | (with_reducible refine Below.setCell ?_ ?_ _) | (with_reducible refine Below.trans ?_ (Below.mono (by with_reducible assumption) ?_)) | omega | (simp only [World.size_alloc] at *; omega) | (with_reducible refine Below.size (B := 0) ?_)))) (Nat.le_refl _))).mono ?_
  rintro e w7 ⟨rfl, hb7⟩
  clear qc0 qc1 qc2 qc3 qcf qcl
  replace Vi := Vi.step0 hb7
  replace Vc := Vc.step0 hb7
  clear x6 p0 p1 hne hne' nc nc' gl
  have KK : Hid (Below w.heap.size w w7) := Lib.hid (by (repeat' (first | (with_reducible exact Below.refl _ _) | (with_reducible refine below_drewN ?_ _) | (with_reducible refine Below.drew ?_) | (with_reducible refine Below.alloc ?_ ?_ _) | (with_reducible refine Below.setCell ?_ ?_ _) | (with_reducible refine Below.trans ?_ (Below.mono (by with_reducible assumption) ?_)) | omega | (simp only [World.size_alloc, World.size_setCell] at *; omega) | (with_reducible refine Below.size (B := 0) ?_))))
  clear hb1 hb2 hb3 hb4 hb6 hb7
  obtain ⟨qi0, qi1, qi2, qi3, qif, qil⟩ := Vi.facts
  obtain ⟨qc0, qc1, qc2, qc3, qcf, qcl⟩ := Vc.facts
  go_wp2_with fail
  refine (HX.out _ (HSI.out.below (B := w.heap.size) (KK.out.trans (Below.mono (B := w7.heap.size) (by (repeat' (first | (with_reducible exact Below.refl _ _) | (with_reducible refine below_drewN ?_ _) | (with_reducible refine Below.drew ?_) | (with_reducible refine Below.alloc ?_ ?_ _) | (with_reducible refine Below.setCell ?_ ?_ _) | (with_reducible refine Below.trans ?_ (Below.mono (by with_reducible assumption) ?_)) | omega | (simp only [World.size_alloc, World.size_setCell, World.size_drew, Go.Proofs.YtmimlniofhngjaaDoor.World.size_drewN] at *; omega) | (with_reducible refine Below.size (B := 0) ?_)))) KK.out.size)) (Nat.le_refl _))).mono ?_
  rintro e w8 ⟨rfl, hb8⟩
  clear qi0 qi1 qi2 qi3 qif qil qc0 qc1 qc2 qc3 qcf qcl
  replace Vi := Vi.step hb8
  replace Vc := Vc.step hb8
  have Vt := Vb.fresh T hb8
  obtain ⟨qi0, qi1, qi2, qi3, qif, qil⟩ := Vi.facts
  obtain ⟨qc0, qc1, qc2, qc3, qcf, qcl⟩ := Vc.facts
  go_wp2_with fail
  refine (HR.out _ (HSI.out.below (B := w.heap.size) (KK.out.trans (Below.mono (B := w7.heap.size) (by (repeat' (first | (with_reducible exact Below.refl _ _) | (with_reducible refine below_drewN ?_ _) | (with_reducible refine Below.drew ?_) | (with_reducible refine Below.alloc ?_ ?_ _) | (with_reducible refine Below.setCell ?_ ?_ _) | (with_reducible refine Below.trans ?_ (Below.mono (by with_reducible assumption) ?_)) | omega | (simp only [World.size_alloc] at *; omega) | (with_reducible refine Below.size (B := 0) ?_)))) KK.out.size)) (Nat.le_refl _))).mono ?_
  rintro e w9 ⟨rfl, hb9⟩
  clear qi0 qi1 qi2 qi3 qif qil qc0 qc1 qc2 qc3 qcf qcl
  replace Vi := Vi.step hb9
  replace Vc := Vc.step hb9
  replace Vt := Vt.step hb9
  have Vx := Vb.fresh (overV i T) hb9
  obtain ⟨qc0, qc1, qc2, qc3, qcf, qcl⟩ := Vc.facts
  go_wp2_with fail
  refine (HG.out _).mono ?_
  rintro e w10 ⟨rfl, hb10⟩
  clear qc0 qc1 qc2 qc3 qcf qcl
  replace Vi := Vi.step hb10
  replace Vc := Vc.step hb10
  replace Vt := Vt.step hb10
  replace Vx := Vx.step hb10
  have Vr := Vb.fresh (overV T i) hb10
  obtain ⟨qc0, qc1, qc2, qc3, qcf, qcl⟩ := Vc.facts
  go_wp2_with fail
  refine (HQ.out _).mono ?_
  rintro e w11 ⟨rfl, hb11⟩
  clear qc0 qc1 qc2 qc3 qcf qcl
  replace Vi := Vi.step0 hb11
  replace Vc := Vc.step0 hb11
  replace Vt := Vt.step0 hb11
  replace Vx := Vx.step0 hb11
  replace Vr := Vr.step0 hb11
  obtain ⟨qt0, qt1, qt2, qt3, qtf, qtl⟩ := Vt.facts
  obtain ⟨qi0, qi1, qi2, qi3, qif, qil⟩ := Vi.facts
  have hEE := hE.out
  go_wp2_with fail
  refine (HI.out _).mono ?_
  rintro e w12 ⟨rfl, hb12⟩
  clear qt0 qt1 qt2 qt3 qtf qtl qi0 qi1 qi2 qi3 qif qil
  replace Vi := Vi.step hb12
  replace Vc := Vc.step hb12
  replace Vt := Vt.step hb12
  replace Vx := Vx.step hb12
  replace Vr := Vr.step hb12
  have Vq := Vb.fresh T hb12
  clear hEE
  clear Vt
  clear Vc
  have KH : Hid (Below w.heap.size w w12) := Lib.hid (KK.out.trans (Below.mono (B := w7.heap.size) (by (repeat' (first | (with_reducible exact Below.refl _ _) | (with_reducible refine below_drewN ?_ _) | (with_reducible refine Below.drew ?_) | (with_reducible refine Below.alloc ?_ ?_ _) | (with_reducible refine Below.setCell ?_ ?_ _) | (with_reducible refine Below.trans ?_ (Below.mono (by with_reducible assumption) ?_)) | omega | (simp only [World.size_alloc] at *; omega) | (with_reducible refine Below.size (B := 0) ?_)))) KK.out.size))
  clear hb8 hb9 hb10 hb11 hb12
  obtain ⟨qx0, qx1, qx2, qx3, qxf, qxl⟩ := Vx.facts
  obtain ⟨qr0, qr1, qr2, qr3, qrf, qrl⟩ := Vr.facts
  obtain ⟨qi0, qi1, qi2, qi3, qif, qil⟩ := Vi.facts
  obtain ⟨qq0, qq1, qq2, qq3, qqf, qql⟩ := Vq.facts
  clear Vx
  clear Vr
  clear Vi
  clear Vq
  clear hE HT HX HR HG HQ HI
  obtain ⟨⟨g0, g0'⟩, ⟨g1, g1'⟩, ⟨g2, g2'⟩, ⟨g3, g3'⟩⟩ := GI.out
  obtain ⟨⟨t0, t0'⟩, ⟨t1, t1'⟩, ⟨t2, t2'⟩, ⟨t3, t3'⟩⟩ := GT.out
  clear GI GT
  simp only [overV] at qx0 qx1 qx2 qx3 qr0 qr1 qr2 qr3
  have e0 : ∀ (ts : Array TypeId) (t : TypeId) (W : World), (Builtin.max_ ts t #[.int .i64 (i.a - T.a), .int .i64 0]).run Tryd.prog W = .ok (.int .i64 (atLeast0 (i.a - T.a))) W := fun _ _ _ => run_max_int2 _ _ _ _ _ _ _
  have f0 : ∀ (ts : Array TypeId) (t : TypeId) (W : World), (Builtin.max_ ts t #[.int .i64 (T.a - i.a), .int .i64 0]).run Tryd.prog W = .ok (.int .i64 (atLeast0 (T.a - i.a))) W := fun _ _ _ => run_max_int2 _ _ _ _ _ _ _
  have u0 : IntKind.i64.wrap (i.a - T.a) = i.a - T.a := IntWalk.i64_in _ (by omega)
  have v0 : IntKind.i64.wrap (T.a - i.a) = T.a - i.a := IntWalk.i64_in _ (by omega)
  have e1 : ∀ (ts : Array TypeId) (t : TypeId) (W : World), (Builtin.max_ ts t #[.int .i64 (i.b - T.b), .int .i64 0]).run Tryd.prog W = .ok (.int .i64 (atLeast0 (i.b - T.b))) W := fun _ _ _ => run_max_int2 _ _ _ _ _ _ _
  have f1 : ∀ (ts : Array TypeId) (t : TypeId) (W : World), (Builtin.max_ ts t #[.int .i64 (T.b - i.b), .int .i64 0]).run Tryd.prog W = .ok (.int .i64 (atLeast0 (T.b - i.b))) W := fun _ _ _ => run_max_int2 _ _ _ _ _ _ _
  have u1 : IntKind.i64.wrap (i.b - T.b) = i.b - T.b := IntWalk.i64_in _ (by omega)
  have v1 : IntKind.i64.wrap (T.b - i.b) = T.b - i.b := IntWalk.i64_in _ (by omega)
  have e2 : ∀ (ts : Array TypeId) (t : TypeId) (W : World), (Builtin.max_ ts t #[.int .i64 (i.c - T.c), .int .i64 0]).run Tryd.prog W = .ok (.int .i64 (atLeast0 (i.c - T.c))) W := fun _ _ _ => run_max_int2 _ _ _ _ _ _ _
  have f2 : ∀ (ts : Array TypeId) (t : TypeId) (W : World), (Builtin.max_ ts t #[.int .i64 (T.c - i.c), .int .i64 0]).run Tryd.prog W = .ok (.int .i64 (atLeast0 (T.c - i.c))) W := fun _ _ _ => run_max_int2 _ _ _ _ _ _ _
  have u2 : IntKind.i64.wrap (i.c - T.c) = i.c - T.c := IntWalk.i64_in _ (by omega)
  have v2 : IntKind.i64.wrap (T.c - i.c) = T.c - i.c := IntWalk.i64_in _ (by omega)
  have e3 : ∀ (ts : Array TypeId) (t : TypeId) (W : World), (Builtin.max_ ts t #[.int .i64 (i.d - T.d), .int .i64 0]).run Tryd.prog W = .ok (.int .i64 (atLeast0 (i.d - T.d))) W := fun _ _ _ => run_max_int2 _ _ _ _ _ _ _
  have f3 : ∀ (ts : Array TypeId) (t : TypeId) (W : World), (Builtin.max_ ts t #[.int .i64 (T.d - i.d), .int .i64 0]).run Tryd.prog W = .ok (.int .i64 (atLeast0 (T.d - i.d))) W := fun _ _ _ => run_max_int2 _ _ _ _ _ _ _
  have u3 : IntKind.i64.wrap (i.d - T.d) = i.d - T.d := IntWalk.i64_in _ (by omega)
  have v3 : IntKind.i64.wrap (T.d - i.d) = T.d - i.d := IntWalk.i64_in _ (by omega)
  go_wp2_with fail
  refine wp_loop_rounds 5 ?_
  rw [rounds_succ]
  go_wp2_with fail
  go_quiet (fail)
  go_wp2_with fail
  rw [rounds_succ]
  go_wp2_with fail
  go_quiet (fail)
  go_wp2_with fail
  rw [rounds_succ]
  go_wp2_with fail
  go_quiet (fail)
  go_wp2_with fail
  rw [rounds_succ]
  go_wp2_with fail
  go_quiet (fail)
  go_wp2_with fail
  rw [rounds_succ]
  go_wp2_with fail
  go_ret
  exact ⟨rfl, KH.out.trans (Below.mono (B := w12.heap.size) (by (repeat' (first | (with_reducible exact Below.refl _ _) | (with_reducible refine below_drewN ?_ _) | (with_reducible refine Below.drew ?_) | (with_reducible refine Below.alloc ?_ ?_ _) | (with_reducible refine Below.setCell ?_ ?_ _) | (with_reducible refine Below.trans ?_ (Below.mono (by with_reducible assumption) ?_)) | omega | (simp only [World.size_alloc, World.size_setCell, World.size_drew, Go.Proofs.YtmimlniofhngjaaDoor.World.size_drewN] at *; omega) | (with_reducible refine Below.size (B := 0) ?_)))) (by have := KH.out.size; omega))⟩

theorem exact_any (s : Nat → Addr) (i m c : V4) (n : Int) (w : World) (hs : Sent s w) (ht : ETy w) :
    Calls Tryd.prog 3 #[.agg #[.int .i64 i.a, .int .i64 i.b, .int .i64 i.c, .int .i64 i.d], .agg #[.int .i64 m.a, .int .i64 m.b, .int .i64 m.c, .int .i64 m.d], .agg #[.int .i64 c.a, .int .i64 c.b, .int .i64 c.c, .int .i64 c.d], .int .i64 n] w fun e w' => e = .returned (.bool true) ∧ Below w.heap.size w w' := by
  cases hc : goodV c && ratB n
  · exact exact_t1 s i m c n w hs ht hc (by rw [may_none hc]; decide)
  · cases hi : goodV i
    · exact exact_t2 s i m c n w hs ht hc hi (by rw [may_add hc (by rw [add1_of_bad (.inl hi)]; decide), add1_of_bad (.inl hi)]; decide)
    · by_cases h9 : (mayR i m c n).1 = 9
      · exact exact_t9 s i m c n w hs ht hc hi (k := (mayR i m c n).2) (by rw [← h9])
      · exact exact_t3 s i m c n w hs ht hc hi h9
end Go.Proofs.YtmimlniofhngjaaDoor
