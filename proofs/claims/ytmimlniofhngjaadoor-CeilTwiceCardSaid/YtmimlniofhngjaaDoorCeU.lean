/- The walk of the law CeilTwice: all vectors and sums valid. Condition: the package variables lie as the program's text lays them. -/
import Derived.Test.YtmimlniofhngjaaDoorCeT
namespace Go.Proofs.YtmimlniofhngjaaDoor
open Go Go.RowKit

set_option maxRecDepth 100000 in
set_option maxHeartbeats 3200000 in
theorem twice_m1 (s : Nat → Addr) (i a b c : V4) (n : Int) (w : World) (hs : Sent s w) (ht : ETy w) (h1 : (addR i a).2 = 0) (h2 : (addR a b).2 = 0) (h3 : goodV c = true) (r : Int) (hr1 : 1 ≤ r) (hr2 : r ≤ 16) (hr : wrap64 (1 + wrap64 ((IntKind.u64.wrap n).tmod 16)) = r) (m1 : (mayR i a c r).1 ≠ 0) :
    Calls Tryd.prog 5 #[.agg #[.int .i64 i.a, .int .i64 i.b, .int .i64 i.c, .int .i64 i.d], .agg #[.int .i64 a.a, .int .i64 a.b, .int .i64 a.c, .int .i64 a.d], .agg #[.int .i64 b.a, .int .i64 b.b, .int .i64 b.c, .int .i64 b.d], .agg #[.int .i64 c.a, .int .i64 c.b, .int .i64 c.c, .int .i64 c.d], .int .i64 n] w fun e w' => e = .returned (.bool true) ∧ Below w.heap.size w w' := by
  have gi := (add_sum h1).1
  have hrr : ratB r = true := ratB_iff.2 ⟨hr1, hr2⟩
  have H1 := Lib.hid (fun W h => add_ok s i a W h h1)
  have H2 := Lib.hid (fun W h => add_ok s a b W h h2)
  have H3 := Lib.hid (fun W => good_c c W)
  rw [h3] at H3
  have M1 := Lib.hid (fun W h => may_some s i a c r W h m1)
  have HR := Lib.hid (fun W h => room_ok s i c r W h gi h3 hrr)
  have HX := Lib.hid (fun W h => exc_ok s i c r W h gi h3 hrr)
  have M4 := Lib.hid (fun W h => may_nil s i (overV (topV c r) i) c r W h (room_may gi h3 hrr))
  have hNF := none_or i (topV c r)
  generalize (addR i a).1 = S at H1
  generalize (addR a b).1 = D at H2
  generalize overV (topV c r) i = R at HR M4 hNF
  generalize overV i (topV c r) = X at HX hNF
  have HNF := Lib.hid hNF
  clear h1 h2 h3 gi hrr hNF m1
  go_enter Tryd.func5, Tryd.ntmps5
  go_wp2_with fail
  refine (awake_c s _ (hs.below (B := w.heap.size) (by (repeat' (first | (with_reducible exact Below.refl _ _) | (with_reducible refine below_drewN ?_ _) | (with_reducible refine Below.drew ?_) | (with_reducible refine Below.alloc ?_ ?_ _) | (with_reducible refine Below.setCell ?_ ?_ _) | (with_reducible refine Below.trans ?_ (Below.mono (by with_reducible assumption) ?_)) | omega | (simp only [World.size_alloc] at *; omega) | (with_reducible refine Below.size (B := 0) ?_)))) (Nat.le_refl _)) (ht.below (B := w.heap.size) (by (repeat' (first | (with_reducible exact Below.refl _ _) | (with_reducible refine below_drewN ?_ _) | (with_reducible refine Below.drew ?_) | (with_reducible refine Below.alloc ?_ ?_ _) | (with_reducible refine Below.setCell ?_ ?_ _) | (with_reducible refine Below.trans ?_ (Below.mono (by with_reducible assumption) ?_)) | omega | (simp only [World.size_alloc] at *; omega) | (with_reducible refine Below.size (B := 0) ?_)))) (Nat.le_refl _))).mono ?_
  rintro e w1 ⟨rfl, hb1⟩
  have Vi : Vb w1 w.heap.size i := ((((Vb.new w i).alloc _).alloc _).alloc _).step0 hb1
  have Va : Vb w1 (w.heap.size + 1) a := (((Vb.new_at (by simp) a).alloc _).alloc _).step0 hb1
  have Vb_ : Vb w1 (w.heap.size + 1 + 1) b := ((Vb.new_at (by simp) b).alloc _).step0 hb1
  have Vc : Vb w1 (w.heap.size + 1 + 1 + 1) c := (Vb.new_at (by simp) c).step0 hb1
  obtain ⟨qi0, qi1, qi2, qi3, qif, qil⟩ := Vi.facts
  obtain ⟨qa0, qa1, qa2, qa3, qaf, qal⟩ := Va.facts
  go_wp2_with fail
  refine (H1.out _ (hs.below (B := w.heap.size) (by (repeat' (first | (with_reducible exact Below.refl _ _) | (with_reducible refine below_drewN ?_ _) | (with_reducible refine Below.drew ?_) | (with_reducible refine Below.alloc ?_ ?_ _) | (with_reducible refine Below.setCell ?_ ?_ _) | (with_reducible refine Below.trans ?_ (Below.mono (by with_reducible assumption) ?_)) | omega | (simp only [World.size_alloc] at *; omega) | (with_reducible refine Below.size (B := 0) ?_)))) (Nat.le_refl _))).mono ?_
  rintro e w2 ⟨rfl, hb2⟩
  clear qi0 qi1 qi2 qi3 qif qil qa0 qa1 qa2 qa3 qaf qal
  replace Vi := Vi.step0 hb2
  replace Va := Va.step0 hb2
  replace Vb_ := Vb_.step0 hb2
  replace Vc := Vc.step0 hb2
  obtain ⟨qa0, qa1, qa2, qa3, qaf, qal⟩ := Va.facts
  obtain ⟨qb_0, qb_1, qb_2, qb_3, qb_f, qb_l⟩ := Vb_.facts
  go_wp2_with fail
  refine (H2.out _ (hs.below (B := w.heap.size) (by (repeat' (first | (with_reducible exact Below.refl _ _) | (with_reducible refine below_drewN ?_ _) | (with_reducible refine Below.drew ?_) | (with_reducible refine Below.alloc ?_ ?_ _) | (with_reducible refine Below.setCell ?_ ?_ _) | (with_reducible refine Below.trans ?_ (Below.mono (by with_reducible assumption) ?_)) | omega | (simp only [World.size_alloc] at *; omega) | (with_reducible refine Below.size (B := 0) ?_)))) (Nat.le_refl _))).mono ?_
  rintro e w3 ⟨rfl, hb3⟩
  clear qa0 qa1 qa2 qa3 qaf qal qb_0 qb_1 qb_2 qb_3 qb_f qb_l
  replace Vi := Vi.step hb3
  replace Va := Va.step hb3
  replace Vb_ := Vb_.step hb3
  replace Vc := Vc.step hb3
  have Vs := Vb.fresh S hb3
  obtain ⟨qc0, qc1, qc2, qc3, qcf, qcl⟩ := Vc.facts
  go_wp2_with fail
  refine (H3.out _).mono ?_
  rintro e w4 ⟨rfl, hb4⟩
  clear qc0 qc1 qc2 qc3 qcf qcl
  replace Vi := Vi.step hb4
  replace Va := Va.step hb4
  replace Vb_ := Vb_.step hb4
  replace Vc := Vc.step hb4
  replace Vs := Vs.step hb4
  have Vd := Vb.fresh D hb4
  obtain ⟨qi0, qi1, qi2, qi3, qif, qil⟩ := Vi.facts
  obtain ⟨qa0, qa1, qa2, qa3, qaf, qal⟩ := Va.facts
  obtain ⟨qc0, qc1, qc2, qc3, qcf, qcl⟩ := Vc.facts
  go_wp2_with fail
  refine (M1.out _ (hs.below (B := w.heap.size) (by (repeat' (first | (with_reducible exact Below.refl _ _) | (with_reducible refine below_drewN ?_ _) | (with_reducible refine Below.drew ?_) | (with_reducible refine Below.alloc ?_ ?_ _) | (with_reducible refine Below.setCell ?_ ?_ _) | (with_reducible refine Below.trans ?_ (Below.mono (by with_reducible assumption) ?_)) | omega | (simp only [World.size_alloc] at *; omega) | (with_reducible refine Below.size (B := 0) ?_)))) (Nat.le_refl _))).mono ?_
  rintro e w5 ⟨⟨E1, p1, rfl⟩, hb5⟩
  clear qi0 qi1 qi2 qi3 qif qil qa0 qa1 qa2 qa3 qaf qal qc0 qc1 qc2 qc3 qcf qcl
  replace Vi := Vi.step0 hb5
  replace Va := Va.step0 hb5
  replace Vb_ := Vb_.step0 hb5
  replace Vc := Vc.step0 hb5
  replace Vs := Vs.step0 hb5
  replace Vd := Vd.step0 hb5
  clear Va
  clear Vb_
  clear Vs
  clear Vd
  obtain ⟨qi0, qi1, qi2, qi3, qif, qil⟩ := Vi.facts
  obtain ⟨qc0, qc1, qc2, qc3, qcf, qcl⟩ := Vc.facts
  go_wp2_with fail
  refine (HR.out _ (hs.below (B := w.heap.size) (by (repeat' (first | (with_reducible exact Below.refl _ _) | (with_reducible refine below_drewN ?_ _) | (with_reducible refine Below.drew ?_) | (with_reducible refine Below.alloc ?_ ?_ _) | (with_reducible refine Below.setCell ?_ ?_ _) | (with_reducible refine Below.trans ?_ (Below.mono (by with_reducible assumption) ?_)) | omega | (simp only [World.size_alloc] at *; omega) | (with_reducible refine Below.size (B := 0) ?_)))) (Nat.le_refl _))).mono ?_
  rintro e w6 ⟨rfl, hb6⟩
  clear qi0 qi1 qi2 qi3 qif qil qc0 qc1 qc2 qc3 qcf qcl
  replace Vi := Vi.step0 hb6
  replace Vc := Vc.step0 hb6
  obtain ⟨qi0, qi1, qi2, qi3, qif, qil⟩ := Vi.facts
  obtain ⟨qc0, qc1, qc2, qc3, qcf, qcl⟩ := Vc.facts
  go_wp2_with fail
  refine (HX.out _ (hs.below (B := w.heap.size) (by (repeat' (first | (with_reducible exact Below.refl _ _) | (with_reducible refine below_drewN ?_ _) | (with_reducible refine Below.drew ?_) | (with_reducible refine Below.alloc ?_ ?_ _) | (with_reducible refine Below.setCell ?_ ?_ _) | (with_reducible refine Below.trans ?_ (Below.mono (by with_reducible assumption) ?_)) | omega | (simp only [World.size_alloc] at *; omega) | (with_reducible refine Below.size (B := 0) ?_)))) (Nat.le_refl _))).mono ?_
  rintro e w7 ⟨rfl, hb7⟩
  clear qi0 qi1 qi2 qi3 qif qil qc0 qc1 qc2 qc3 qcf qcl
  replace Vi := Vi.step hb7
  replace Vc := Vc.step hb7
  have Vr := Vb.fresh R hb7
  obtain ⟨qi0, qi1, qi2, qi3, qif, qil⟩ := Vi.facts
  obtain ⟨qr0, qr1, qr2, qr3, qrf, qrl⟩ := Vr.facts
  obtain ⟨qc0, qc1, qc2, qc3, qcf, qcl⟩ := Vc.facts
  go_wp2_with fail
  refine (M4.out _ (hs.below (B := w.heap.size) (by (repeat' (first | (with_reducible exact Below.refl _ _) | (with_reducible refine below_drewN ?_ _) | (with_reducible refine Below.drew ?_) | (with_reducible refine Below.alloc ?_ ?_ _) | (with_reducible refine Below.setCell ?_ ?_ _) | (with_reducible refine Below.trans ?_ (Below.mono (by with_reducible assumption) ?_)) | omega | (simp only [World.size_alloc] at *; omega) | (with_reducible refine Below.size (B := 0) ?_)))) (Nat.le_refl _))).mono ?_
  rintro e w8 ⟨rfl, hb8⟩
  clear qi0 qi1 qi2 qi3 qif qil qr0 qr1 qr2 qr3 qrf qrl qc0 qc1 qc2 qc3 qcf qcl
  replace Vi := Vi.step hb8
  replace Vc := Vc.step hb8
  replace Vr := Vr.step hb8
  have Vx := Vb.fresh X hb8
  have KH : Hid (Below w.heap.size w w8) := Lib.hid (by (repeat' (first | (with_reducible exact Below.refl _ _) | (with_reducible refine below_drewN ?_ _) | (with_reducible refine Below.drew ?_) | (with_reducible refine Below.alloc ?_ ?_ _) | (with_reducible refine Below.setCell ?_ ?_ _) | (with_reducible refine Below.trans ?_ (Below.mono (by with_reducible assumption) ?_)) | omega | (simp only [World.size_alloc] at *; omega) | (with_reducible refine Below.size (B := 0) ?_))))
  clear hb1 hb2 hb3 hb4 hb5 hb6 hb7 hb8
  clear Vi
  clear Vc
  obtain ⟨qr0, qr1, qr2, qr3, qrf, qrl⟩ := Vr.facts
  obtain ⟨qx0, qx1, qx2, qx3, qxf, qxl⟩ := Vx.facts
  obtain ⟨NB, hN⟩ : ∃ NB, noneV X = NB := ⟨_, rfl⟩
  have HNN := Lib.hid (fun W => none_c X W)
  rw [hN] at HNN
  have HFF := Lib.hid (fun W => fits_c X R W)
  cases NB
  · have hF := HNF.out.resolve_left (by rw [hN]; decide)
    rw [hF] at HFF
    clear hN hF
    go_wp2_with fail
    refine (HNN.out _).mono ?_
    rintro e w41 ⟨rfl, hb41⟩
    clear qr0 qr1 qr2 qr3 qrf qrl qx0 qx1 qx2 qx3 qxf qxl
    replace Vr := Vr.step0 hb41
    replace Vx := Vx.step0 hb41
    obtain ⟨qr0, qr1, qr2, qr3, qrf, qrl⟩ := Vr.facts
    obtain ⟨qx0, qx1, qx2, qx3, qxf, qxl⟩ := Vx.facts
    go_wp2_with fail
    refine (HFF.out _).mono ?_
    rintro e w42 ⟨rfl, hb42⟩
    clear qr0 qr1 qr2 qr3 qrf qrl qx0 qx1 qx2 qx3 qxf qxl
    replace Vr := Vr.step0 hb42
    replace Vx := Vx.step0 hb42
    go_wp2_with fail
    go_ret
    exact ⟨rfl, KH.out.trans (Below.mono (B := w8.heap.size) (by (repeat' (first | (with_reducible exact Below.refl _ _) | (with_reducible refine below_drewN ?_ _) | (with_reducible refine Below.drew ?_) | (with_reducible refine Below.alloc ?_ ?_ _) | (with_reducible refine Below.setCell ?_ ?_ _) | (with_reducible refine Below.trans ?_ (Below.mono (by with_reducible assumption) ?_)) | omega | (simp only [World.size_alloc, World.size_setCell, World.size_drew, Go.Proofs.YtmimlniofhngjaaDoor.World.size_drewN] at *; omega) | (with_reducible refine Below.size (B := 0) ?_)))) (by have := KH.out.size; omega))⟩
  · clear hN
    go_wp2_with fail
    refine (HNN.out _).mono ?_
    rintro e w41 ⟨rfl, hb41⟩
    clear qr0 qr1 qr2 qr3 qrf qrl qx0 qx1 qx2 qx3 qxf qxl
    replace Vr := Vr.step0 hb41
    replace Vx := Vx.step0 hb41
    go_wp2_with fail
    go_ret
    exact ⟨rfl, KH.out.trans (Below.mono (B := w8.heap.size) (by (repeat' (first | (with_reducible exact Below.refl _ _) | (with_reducible refine below_drewN ?_ _) | (with_reducible refine Below.drew ?_) | (with_reducible refine Below.alloc ?_ ?_ _) | (with_reducible refine Below.setCell ?_ ?_ _) | (with_reducible refine Below.trans ?_ (Below.mono (by with_reducible assumption) ?_)) | omega | (simp only [World.size_alloc, World.size_setCell, World.size_drew, Go.Proofs.YtmimlniofhngjaaDoor.World.size_drewN] at *; omega) | (with_reducible refine Below.size (B := 0) ?_)))) (by have := KH.out.size; omega))⟩

set_option maxRecDepth 100000 in
set_option maxHeartbeats 3200000 in
theorem twice_m2 (s : Nat → Addr) (i a b c : V4) (n : Int) (w : World) (hs : Sent s w) (ht : ETy w) (h1 : (addR i a).2 = 0) (h2 : (addR a b).2 = 0) (h3 : goodV c = true) (r : Int) (hr1 : 1 ≤ r) (hr2 : r ≤ 16) (hr : wrap64 (1 + wrap64 ((IntKind.u64.wrap n).tmod 16)) = r) (m1 : (mayR i a c r).1 = 0) (m2 : (mayR (addR i a).1 b c r).1 ≠ 0) :
    Calls Tryd.prog 5 #[.agg #[.int .i64 i.a, .int .i64 i.b, .int .i64 i.c, .int .i64 i.d], .agg #[.int .i64 a.a, .int .i64 a.b, .int .i64 a.c, .int .i64 a.d], .agg #[.int .i64 b.a, .int .i64 b.b, .int .i64 b.c, .int .i64 b.d], .agg #[.int .i64 c.a, .int .i64 c.b, .int .i64 c.c, .int .i64 c.d], .int .i64 n] w fun e w' => e = .returned (.bool true) ∧ Below w.heap.size w w' := by
  have gi := (add_sum h1).1
  have hrr : ratB r = true := ratB_iff.2 ⟨hr1, hr2⟩
  have H1 := Lib.hid (fun W h => add_ok s i a W h h1)
  have H2 := Lib.hid (fun W h => add_ok s a b W h h2)
  have H3 := Lib.hid (fun W => good_c c W)
  rw [h3] at H3
  have M1 := Lib.hid (fun W h => may_nil s i a c r W h m1)
  have M2 := Lib.hid (fun W h => may_some s (addR i a).1 b c r W h m2)
  have HR := Lib.hid (fun W h => room_ok s i c r W h gi h3 hrr)
  have HX := Lib.hid (fun W h => exc_ok s i c r W h gi h3 hrr)
  have M4 := Lib.hid (fun W h => may_nil s i (overV (topV c r) i) c r W h (room_may gi h3 hrr))
  have hNF := none_or i (topV c r)
  generalize (addR i a).1 = S at H1 M2
  generalize (addR a b).1 = D at H2
  generalize overV (topV c r) i = R at HR M4 hNF
  generalize overV i (topV c r) = X at HX hNF
  have HNF := Lib.hid hNF
  clear h1 h2 h3 gi hrr hNF m1 m2
  go_enter Tryd.func5, Tryd.ntmps5
  go_wp2_with fail
  refine (awake_c s _ (hs.below (B := w.heap.size) (by (repeat' (first | (with_reducible exact Below.refl _ _) | (with_reducible refine below_drewN ?_ _) | (with_reducible refine Below.drew ?_) | (with_reducible refine Below.alloc ?_ ?_ _) | (with_reducible refine Below.setCell ?_ ?_ _) | (with_reducible refine Below.trans ?_ (Below.mono (by with_reducible assumption) ?_)) | omega | (simp only [World.size_alloc] at *; omega) | (with_reducible refine Below.size (B := 0) ?_)))) (Nat.le_refl _)) (ht.below (B := w.heap.size) (by (repeat' (first | (with_reducible exact Below.refl _ _) | (with_reducible refine below_drewN ?_ _) | (with_reducible refine Below.drew ?_) | (with_reducible refine Below.alloc ?_ ?_ _) | (with_reducible refine Below.setCell ?_ ?_ _) | (with_reducible refine Below.trans ?_ (Below.mono (by with_reducible assumption) ?_)) | omega | (simp only [World.size_alloc] at *; omega) | (with_reducible refine Below.size (B := 0) ?_)))) (Nat.le_refl _))).mono ?_
  rintro e w1 ⟨rfl, hb1⟩
  have Vi : Vb w1 w.heap.size i := ((((Vb.new w i).alloc _).alloc _).alloc _).step0 hb1
  have Va : Vb w1 (w.heap.size + 1) a := (((Vb.new_at (by simp) a).alloc _).alloc _).step0 hb1
  have Vb_ : Vb w1 (w.heap.size + 1 + 1) b := ((Vb.new_at (by simp) b).alloc _).step0 hb1
  have Vc : Vb w1 (w.heap.size + 1 + 1 + 1) c := (Vb.new_at (by simp) c).step0 hb1
  obtain ⟨qi0, qi1, qi2, qi3, qif, qil⟩ := Vi.facts
  obtain ⟨qa0, qa1, qa2, qa3, qaf, qal⟩ := Va.facts
  go_wp2_with fail
  refine (H1.out _ (hs.below (B := w.heap.size) (by (repeat' (first | (with_reducible exact Below.refl _ _) | (with_reducible refine below_drewN ?_ _) | (with_reducible refine Below.drew ?_) | (with_reducible refine Below.alloc ?_ ?_ _) | (with_reducible refine Below.setCell ?_ ?_ _) | (with_reducible refine Below.trans ?_ (Below.mono (by with_reducible assumption) ?_)) | omega | (simp only [World.size_alloc] at *; omega) | (with_reducible refine Below.size (B := 0) ?_)))) (Nat.le_refl _))).mono ?_
  rintro e w2 ⟨rfl, hb2⟩
  clear qi0 qi1 qi2 qi3 qif qil qa0 qa1 qa2 qa3 qaf qal
  replace Vi := Vi.step0 hb2
  replace Va := Va.step0 hb2
  replace Vb_ := Vb_.step0 hb2
  replace Vc := Vc.step0 hb2
  obtain ⟨qa0, qa1, qa2, qa3, qaf, qal⟩ := Va.facts
  obtain ⟨qb_0, qb_1, qb_2, qb_3, qb_f, qb_l⟩ := Vb_.facts
  go_wp2_with fail
  refine (H2.out _ (hs.below (B := w.heap.size) (by (repeat' (first | (with_reducible exact Below.refl _ _) | (with_reducible refine below_drewN ?_ _) | (with_reducible refine Below.drew ?_) | (with_reducible refine Below.alloc ?_ ?_ _) | (with_reducible refine Below.setCell ?_ ?_ _) | (with_reducible refine Below.trans ?_ (Below.mono (by with_reducible assumption) ?_)) | omega | (simp only [World.size_alloc] at *; omega) | (with_reducible refine Below.size (B := 0) ?_)))) (Nat.le_refl _))).mono ?_
  rintro e w3 ⟨rfl, hb3⟩
  clear qa0 qa1 qa2 qa3 qaf qal qb_0 qb_1 qb_2 qb_3 qb_f qb_l
  replace Vi := Vi.step hb3
  replace Va := Va.step hb3
  replace Vb_ := Vb_.step hb3
  replace Vc := Vc.step hb3
  have Vs := Vb.fresh S hb3
  obtain ⟨qc0, qc1, qc2, qc3, qcf, qcl⟩ := Vc.facts
  go_wp2_with fail
  refine (H3.out _).mono ?_
  rintro e w4 ⟨rfl, hb4⟩
  clear qc0 qc1 qc2 qc3 qcf qcl
  replace Vi := Vi.step hb4
  replace Va := Va.step hb4
  replace Vb_ := Vb_.step hb4
  replace Vc := Vc.step hb4
  replace Vs := Vs.step hb4
  have Vd := Vb.fresh D hb4
  obtain ⟨qi0, qi1, qi2, qi3, qif, qil⟩ := Vi.facts
  obtain ⟨qa0, qa1, qa2, qa3, qaf, qal⟩ := Va.facts
  obtain ⟨qc0, qc1, qc2, qc3, qcf, qcl⟩ := Vc.facts
  go_wp2_with fail
  refine (M1.out _ (hs.below (B := w.heap.size) (by (repeat' (first | (with_reducible exact Below.refl _ _) | (with_reducible refine below_drewN ?_ _) | (with_reducible refine Below.drew ?_) | (with_reducible refine Below.alloc ?_ ?_ _) | (with_reducible refine Below.setCell ?_ ?_ _) | (with_reducible refine Below.trans ?_ (Below.mono (by with_reducible assumption) ?_)) | omega | (simp only [World.size_alloc] at *; omega) | (with_reducible refine Below.size (B := 0) ?_)))) (Nat.le_refl _))).mono ?_
  rintro e w5 ⟨rfl, hb5⟩
  clear qi0 qi1 qi2 qi3 qif qil qa0 qa1 qa2 qa3 qaf qal qc0 qc1 qc2 qc3 qcf qcl
  replace Vi := Vi.step0 hb5
  replace Va := Va.step0 hb5
  replace Vb_ := Vb_.step0 hb5
  replace Vc := Vc.step0 hb5
  replace Vs := Vs.step0 hb5
  replace Vd := Vd.step0 hb5
  obtain ⟨qs0, qs1, qs2, qs3, qsf, qsl⟩ := Vs.facts
  obtain ⟨qb_0, qb_1, qb_2, qb_3, qb_f, qb_l⟩ := Vb_.facts
  obtain ⟨qc0, qc1, qc2, qc3, qcf, qcl⟩ := Vc.facts
  go_wp2_with fail
  refine (M2.out _ (hs.below (B := w.heap.size) (by (repeat' (first | (with_reducible exact Below.refl _ _) | (with_reducible refine below_drewN ?_ _) | (with_reducible refine Below.drew ?_) | (with_reducible refine Below.alloc ?_ ?_ _) | (with_reducible refine Below.setCell ?_ ?_ _) | (with_reducible refine Below.trans ?_ (Below.mono (by with_reducible assumption) ?_)) | omega | (simp only [World.size_alloc] at *; omega) | (with_reducible refine Below.size (B := 0) ?_)))) (Nat.le_refl _))).mono ?_
  rintro e w6 ⟨⟨E1, p1, rfl⟩, hb6⟩
  clear qs0 qs1 qs2 qs3 qsf qsl qb_0 qb_1 qb_2 qb_3 qb_f qb_l qc0 qc1 qc2 qc3 qcf qcl
  replace Vi := Vi.step0 hb6
  replace Va := Va.step0 hb6
  replace Vb_ := Vb_.step0 hb6
  replace Vc := Vc.step0 hb6
  replace Vs := Vs.step0 hb6
  replace Vd := Vd.step0 hb6
  clear Va
  clear Vb_
  clear Vs
  clear Vd
  obtain ⟨qi0, qi1, qi2, qi3, qif, qil⟩ := Vi.facts
  obtain ⟨qc0, qc1, qc2, qc3, qcf, qcl⟩ := Vc.facts
  go_wp2_with fail
  refine (HR.out _ (hs.below (B := w.heap.size) (by (repeat' (first | (with_reducible exact Below.refl _ _) | (with_reducible refine below_drewN ?_ _) | (with_reducible refine Below.drew ?_) | (with_reducible refine Below.alloc ?_ ?_ _) | (with_reducible refine Below.setCell ?_ ?_ _) | (with_reducible refine Below.trans ?_ (Below.mono (by with_reducible assumption) ?_)) | omega | (simp only [World.size_alloc] at *; omega) | (with_reducible refine Below.size (B := 0) ?_)))) (Nat.le_refl _))).mono ?_
  rintro e w7 ⟨rfl, hb7⟩
  clear qi0 qi1 qi2 qi3 qif qil qc0 qc1 qc2 qc3 qcf qcl
  replace Vi := Vi.step0 hb7
  replace Vc := Vc.step0 hb7
  obtain ⟨qi0, qi1, qi2, qi3, qif, qil⟩ := Vi.facts
  obtain ⟨qc0, qc1, qc2, qc3, qcf, qcl⟩ := Vc.facts
  go_wp2_with fail
  refine (HX.out _ (hs.below (B := w.heap.size) (by (repeat' (first | (with_reducible exact Below.refl _ _) | (with_reducible refine below_drewN ?_ _) | (with_reducible refine Below.drew ?_) | (with_reducible refine Below.alloc ?_ ?_ _) | (with_reducible refine Below.setCell ?_ ?_ _) | (with_reducible refine Below.trans ?_ (Below.mono (by with_reducible assumption) ?_)) | omega | (simp only [World.size_alloc] at *; omega) | (with_reducible refine Below.size (B := 0) ?_)))) (Nat.le_refl _))).mono ?_
  rintro e w8 ⟨rfl, hb8⟩
  clear qi0 qi1 qi2 qi3 qif qil qc0 qc1 qc2 qc3 qcf qcl
  replace Vi := Vi.step hb8
  replace Vc := Vc.step hb8
  have Vr := Vb.fresh R hb8
  obtain ⟨qi0, qi1, qi2, qi3, qif, qil⟩ := Vi.facts
  obtain ⟨qr0, qr1, qr2, qr3, qrf, qrl⟩ := Vr.facts
  obtain ⟨qc0, qc1, qc2, qc3, qcf, qcl⟩ := Vc.facts
  go_wp2_with fail
  refine (M4.out _ (hs.below (B := w.heap.size) (by (repeat' (first | (with_reducible exact Below.refl _ _) | (with_reducible refine below_drewN ?_ _) | (with_reducible refine Below.drew ?_) | (with_reducible refine Below.alloc ?_ ?_ _) | (with_reducible refine Below.setCell ?_ ?_ _) | (with_reducible refine Below.trans ?_ (Below.mono (by with_reducible assumption) ?_)) | omega | (simp only [World.size_alloc] at *; omega) | (with_reducible refine Below.size (B := 0) ?_)))) (Nat.le_refl _))).mono ?_
  rintro e w9 ⟨rfl, hb9⟩
  clear qi0 qi1 qi2 qi3 qif qil qr0 qr1 qr2 qr3 qrf qrl qc0 qc1 qc2 qc3 qcf qcl
  replace Vi := Vi.step hb9
  replace Vc := Vc.step hb9
  replace Vr := Vr.step hb9
  have Vx := Vb.fresh X hb9
  have KH : Hid (Below w.heap.size w w9) := Lib.hid (by (repeat' (first | (with_reducible exact Below.refl _ _) | (with_reducible refine below_drewN ?_ _) | (with_reducible refine Below.drew ?_) | (with_reducible refine Below.alloc ?_ ?_ _) | (with_reducible refine Below.setCell ?_ ?_ _) | (with_reducible refine Below.trans ?_ (Below.mono (by with_reducible assumption) ?_)) | omega | (simp only [World.size_alloc] at *; omega) | (with_reducible refine Below.size (B := 0) ?_))))
  clear hb1 hb2 hb3 hb4 hb5 hb6 hb7 hb8 hb9
  clear Vi
  clear Vc
  obtain ⟨qr0, qr1, qr2, qr3, qrf, qrl⟩ := Vr.facts
  obtain ⟨qx0, qx1, qx2, qx3, qxf, qxl⟩ := Vx.facts
  obtain ⟨NB, hN⟩ : ∃ NB, noneV X = NB := ⟨_, rfl⟩
  have HNN := Lib.hid (fun W => none_c X W)
  rw [hN] at HNN
  have HFF := Lib.hid (fun W => fits_c X R W)
  cases NB
  · have hF := HNF.out.resolve_left (by rw [hN]; decide)
    rw [hF] at HFF
    clear hN hF
    go_wp2_with fail
    refine (HNN.out _).mono ?_
    rintro e w41 ⟨rfl, hb41⟩
    clear qr0 qr1 qr2 qr3 qrf qrl qx0 qx1 qx2 qx3 qxf qxl
    replace Vr := Vr.step0 hb41
    replace Vx := Vx.step0 hb41
    obtain ⟨qr0, qr1, qr2, qr3, qrf, qrl⟩ := Vr.facts
    obtain ⟨qx0, qx1, qx2, qx3, qxf, qxl⟩ := Vx.facts
    go_wp2_with fail
    refine (HFF.out _).mono ?_
    rintro e w42 ⟨rfl, hb42⟩
    clear qr0 qr1 qr2 qr3 qrf qrl qx0 qx1 qx2 qx3 qxf qxl
    replace Vr := Vr.step0 hb42
    replace Vx := Vx.step0 hb42
    go_wp2_with fail
    go_ret
    exact ⟨rfl, KH.out.trans (Below.mono (B := w9.heap.size) (by (repeat' (first | (with_reducible exact Below.refl _ _) | (with_reducible refine below_drewN ?_ _) | (with_reducible refine Below.drew ?_) | (with_reducible refine Below.alloc ?_ ?_ _) | (with_reducible refine Below.setCell ?_ ?_ _) | (with_reducible refine Below.trans ?_ (Below.mono (by with_reducible assumption) ?_)) | omega | (simp only [World.size_alloc, World.size_setCell, World.size_drew, Go.Proofs.YtmimlniofhngjaaDoor.World.size_drewN] at *; omega) | (with_reducible refine Below.size (B := 0) ?_)))) (by have := KH.out.size; omega))⟩
  · clear hN
    go_wp2_with fail
    refine (HNN.out _).mono ?_
    rintro e w41 ⟨rfl, hb41⟩
    clear qr0 qr1 qr2 qr3 qrf qrl qx0 qx1 qx2 qx3 qxf qxl
    replace Vr := Vr.step0 hb41
    replace Vx := Vx.step0 hb41
    go_wp2_with fail
    go_ret
    exact ⟨rfl, KH.out.trans (Below.mono (B := w9.heap.size) (by (repeat' (first | (with_reducible exact Below.refl _ _) | (with_reducible refine below_drewN ?_ _) | (with_reducible refine Below.drew ?_) | (with_reducible refine Below.alloc ?_ ?_ _) | (with_reducible refine Below.setCell ?_ ?_ _) | (with_reducible refine Below.trans ?_ (Below.mono (by with_reducible assumption) ?_)) | omega | (simp only [World.size_alloc, World.size_setCell, World.size_drew, Go.Proofs.YtmimlniofhngjaaDoor.World.size_drewN] at *; omega) | (with_reducible refine Below.size (B := 0) ?_)))) (by have := KH.out.size; omega))⟩

set_option maxRecDepth 100000 in
set_option maxHeartbeats 3200000 in
theorem twice_m3 (s : Nat → Addr) (i a b c : V4) (n : Int) (w : World) (hs : Sent s w) (ht : ETy w) (h1 : (addR i a).2 = 0) (h2 : (addR a b).2 = 0) (h3 : goodV c = true) (r : Int) (hr1 : 1 ≤ r) (hr2 : r ≤ 16) (hr : wrap64 (1 + wrap64 ((IntKind.u64.wrap n).tmod 16)) = r) (m1 : (mayR i a c r).1 = 0) (m2 : (mayR (addR i a).1 b c r).1 = 0) :
    Calls Tryd.prog 5 #[.agg #[.int .i64 i.a, .int .i64 i.b, .int .i64 i.c, .int .i64 i.d], .agg #[.int .i64 a.a, .int .i64 a.b, .int .i64 a.c, .int .i64 a.d], .agg #[.int .i64 b.a, .int .i64 b.b, .int .i64 b.c, .int .i64 b.d], .agg #[.int .i64 c.a, .int .i64 c.b, .int .i64 c.c, .int .i64 c.d], .int .i64 n] w fun e w' => e = .returned (.bool true) ∧ Below w.heap.size w w' := by
  have gi := (add_sum h1).1
  have hrr : ratB r = true := ratB_iff.2 ⟨hr1, hr2⟩
  have H1 := Lib.hid (fun W h => add_ok s i a W h h1)
  have H2 := Lib.hid (fun W h => add_ok s a b W h h2)
  have H3 := Lib.hid (fun W => good_c c W)
  rw [h3] at H3
  have M1 := Lib.hid (fun W h => may_nil s i a c r W h m1)
  have M2 := Lib.hid (fun W h => may_nil s (addR i a).1 b c r W h m2)
  have M3 := Lib.hid (fun W h => may_nil s i (addR a b).1 c r W h (twice_ok h3 hrr m1 m2 h2))
  have HR := Lib.hid (fun W h => room_ok s i c r W h gi h3 hrr)
  have HX := Lib.hid (fun W h => exc_ok s i c r W h gi h3 hrr)
  have M4 := Lib.hid (fun W h => may_nil s i (overV (topV c r) i) c r W h (room_may gi h3 hrr))
  have hNF := none_or i (topV c r)
  generalize (addR i a).1 = S at H1 M2
  generalize (addR a b).1 = D at H2 M3
  generalize overV (topV c r) i = R at HR M4 hNF
  generalize overV i (topV c r) = X at HX hNF
  have HNF := Lib.hid hNF
  clear h1 h2 h3 gi hrr hNF m1 m2
  go_enter Tryd.func5, Tryd.ntmps5
  go_wp2_with fail
  refine (awake_c s _ (hs.below (B := w.heap.size) (by (repeat' (first | (with_reducible exact Below.refl _ _) | (with_reducible refine below_drewN ?_ _) | (with_reducible refine Below.drew ?_) | (with_reducible refine Below.alloc ?_ ?_ _) | (with_reducible refine Below.setCell ?_ ?_ _) | (with_reducible refine Below.trans ?_ (Below.mono (by with_reducible assumption) ?_)) | omega | (simp only [World.size_alloc] at *; omega) | (with_reducible refine Below.size (B := 0) ?_)))) (Nat.le_refl _)) (ht.below (B := w.heap.size) (by (repeat' (first | (with_reducible exact Below.refl _ _) | (with_reducible refine below_drewN ?_ _) | (with_reducible refine Below.drew ?_) | (with_reducible refine Below.alloc ?_ ?_ _) | (with_reducible refine Below.setCell ?_ ?_ _) | (with_reducible refine Below.trans ?_ (Below.mono (by with_reducible assumption) ?_)) | omega | (simp only [World.size_alloc] at *; omega) | (with_reducible refine Below.size (B := 0) ?_)))) (Nat.le_refl _))).mono ?_
  rintro e w1 ⟨rfl, hb1⟩
  have Vi : Vb w1 w.heap.size i := ((((Vb.new w i).alloc _).alloc _).alloc _).step0 hb1
  have Va : Vb w1 (w.heap.size + 1) a := (((Vb.new_at (by simp) a).alloc _).alloc _).step0 hb1
  have Vb_ : Vb w1 (w.heap.size + 1 + 1) b := ((Vb.new_at (by simp) b).alloc _).step0 hb1
  have Vc : Vb w1 (w.heap.size + 1 + 1 + 1) c := (Vb.new_at (by simp) c).step0 hb1
  obtain ⟨qi0, qi1, qi2, qi3, qif, qil⟩ := Vi.facts
  obtain ⟨qa0, qa1, qa2, qa3, qaf, qal⟩ := Va.facts
  go_wp2_with fail
  refine (H1.out _ (hs.below (B := w.heap.size) (by (repeat' (first | (with_reducible exact Below.refl _ _) | (with_reducible refine below_drewN ?_ _) | (with_reducible refine Below.drew ?_) | (with_reducible refine Below.alloc ?_ ?_ _) | (with_reducible refine Below.setCell ?_ ?_ _) | (with_reducible refine Below.trans ?_ (Below.mono (by with_reducible assumption) ?_)) | omega | (simp only [World.size_alloc] at *; omega) | (with_reducible refine Below.size (B := 0) ?_)))) (Nat.le_refl _))).mono ?_
  rintro e w2 ⟨rfl, hb2⟩
  clear qi0 qi1 qi2 qi3 qif qil qa0 qa1 qa2 qa3 qaf qal
  replace Vi := Vi.step0 hb2
  replace Va := Va.step0 hb2
  replace Vb_ := Vb_.step0 hb2
  replace Vc := Vc.step0 hb2
  obtain ⟨qa0, qa1, qa2, qa3, qaf, qal⟩ := Va.facts
  obtain ⟨qb_0, qb_1, qb_2, qb_3, qb_f, qb_l⟩ := Vb_.facts
  go_wp2_with fail
  refine (H2.out _ (hs.below (B := w.heap.size) (by (repeat' (first | (with_reducible exact Below.refl _ _) | (with_reducible refine below_drewN ?_ _) | (with_reducible refine Below.drew ?_) | (with_reducible refine Below.alloc ?_ ?_ _) | (with_reducible refine Below.setCell ?_ ?_ _) | (with_reducible refine Below.trans ?_ (Below.mono (by with_reducible assumption) ?_)) | omega | (simp only [World.size_alloc] at *; omega) | (with_reducible refine Below.size (B := 0) ?_)))) (Nat.le_refl _))).mono ?_
  rintro e w3 ⟨rfl, hb3⟩
  clear qa0 qa1 qa2 qa3 qaf qal qb_0 qb_1 qb_2 qb_3 qb_f qb_l
  replace Vi := Vi.step hb3
  replace Va := Va.step hb3
  replace Vb_ := Vb_.step hb3
  replace Vc := Vc.step hb3
  have Vs := Vb.fresh S hb3
  obtain ⟨qc0, qc1, qc2, qc3, qcf, qcl⟩ := Vc.facts
  go_wp2_with fail
  refine (H3.out _).mono ?_
  rintro e w4 ⟨rfl, hb4⟩
  clear qc0 qc1 qc2 qc3 qcf qcl
  replace Vi := Vi.step hb4
  replace Va := Va.step hb4
  replace Vb_ := Vb_.step hb4
  replace Vc := Vc.step hb4
  replace Vs := Vs.step hb4
  have Vd := Vb.fresh D hb4
  obtain ⟨qi0, qi1, qi2, qi3, qif, qil⟩ := Vi.facts
  obtain ⟨qa0, qa1, qa2, qa3, qaf, qal⟩ := Va.facts
  obtain ⟨qc0, qc1, qc2, qc3, qcf, qcl⟩ := Vc.facts
  go_wp2_with fail
  refine (M1.out _ (hs.below (B := w.heap.size) (by (repeat' (first | (with_reducible exact Below.refl _ _) | (with_reducible refine below_drewN ?_ _) | (with_reducible refine Below.drew ?_) | (with_reducible refine Below.alloc ?_ ?_ _) | (with_reducible refine Below.setCell ?_ ?_ _) | (with_reducible refine Below.trans ?_ (Below.mono (by with_reducible assumption) ?_)) | omega | (simp only [World.size_alloc] at *; omega) | (with_reducible refine Below.size (B := 0) ?_)))) (Nat.le_refl _))).mono ?_
  rintro e w5 ⟨rfl, hb5⟩
  clear qi0 qi1 qi2 qi3 qif qil qa0 qa1 qa2 qa3 qaf qal qc0 qc1 qc2 qc3 qcf qcl
  replace Vi := Vi.step0 hb5
  replace Va := Va.step0 hb5
  replace Vb_ := Vb_.step0 hb5
  replace Vc := Vc.step0 hb5
  replace Vs := Vs.step0 hb5
  replace Vd := Vd.step0 hb5
  obtain ⟨qs0, qs1, qs2, qs3, qsf, qsl⟩ := Vs.facts
  obtain ⟨qb_0, qb_1, qb_2, qb_3, qb_f, qb_l⟩ := Vb_.facts
  obtain ⟨qc0, qc1, qc2, qc3, qcf, qcl⟩ := Vc.facts
  go_wp2_with fail
  refine (M2.out _ (hs.below (B := w.heap.size) (by (repeat' (first | (with_reducible exact Below.refl _ _) | (with_reducible refine below_drewN ?_ _) | (with_reducible refine Below.drew ?_) | (with_reducible refine Below.alloc ?_ ?_ _) | (with_reducible refine Below.setCell ?_ ?_ _) | (with_reducible refine Below.trans ?_ (Below.mono (by with_reducible assumption) ?_)) | omega | (simp only [World.size_alloc] at *; omega) | (with_reducible refine Below.size (B := 0) ?_)))) (Nat.le_refl _))).mono ?_
  rintro e w6 ⟨rfl, hb6⟩
  clear qs0 qs1 qs2 qs3 qsf qsl qb_0 qb_1 qb_2 qb_3 qb_f qb_l qc0 qc1 qc2 qc3 qcf qcl
  replace Vi := Vi.step0 hb6
  replace Va := Va.step0 hb6
  replace Vb_ := Vb_.step0 hb6
  replace Vc := Vc.step0 hb6
  replace Vs := Vs.step0 hb6
  replace Vd := Vd.step0 hb6
  obtain ⟨qi0, qi1, qi2, qi3, qif, qil⟩ := Vi.facts
  obtain ⟨qd0, qd1, qd2, qd3, qdf, qdl⟩ := Vd.facts
  obtain ⟨qc0, qc1, qc2, qc3, qcf, qcl⟩ := Vc.facts
  go_wp2_with fail
  refine (M3.out _ (hs.below (B := w.heap.size) (by (repeat' (first | (with_reducible exact Below.refl _ _) | (with_reducible refine below_drewN ?_ _) | (with_reducible refine Below.drew ?_) | (with_reducible refine Below.alloc ?_ ?_ _) | (with_reducible refine Below.setCell ?_ ?_ _) | (with_reducible refine Below.trans ?_ (Below.mono (by with_reducible assumption) ?_)) | omega | (simp only [World.size_alloc] at *; omega) | (with_reducible refine Below.size (B := 0) ?_)))) (Nat.le_refl _))).mono ?_
  rintro e w7 ⟨rfl, hb7⟩
  clear qi0 qi1 qi2 qi3 qif qil qd0 qd1 qd2 qd3 qdf qdl qc0 qc1 qc2 qc3 qcf qcl
  replace Vi := Vi.step0 hb7
  replace Va := Va.step0 hb7
  replace Vb_ := Vb_.step0 hb7
  replace Vc := Vc.step0 hb7
  replace Vs := Vs.step0 hb7
  replace Vd := Vd.step0 hb7
  clear Va
  clear Vb_
  clear Vs
  clear Vd
  obtain ⟨qi0, qi1, qi2, qi3, qif, qil⟩ := Vi.facts
  obtain ⟨qc0, qc1, qc2, qc3, qcf, qcl⟩ := Vc.facts
  go_wp2_with fail
  refine (HR.out _ (hs.below (B := w.heap.size) (by (repeat' (first | (with_reducible exact Below.refl _ _) | (with_reducible refine below_drewN ?_ _) | (with_reducible refine Below.drew ?_) | (with_reducible refine Below.alloc ?_ ?_ _) | (with_reducible refine Below.setCell ?_ ?_ _) | (with_reducible refine Below.trans ?_ (Below.mono (by with_reducible assumption) ?_)) | omega | (simp only [World.size_alloc] at *; omega) | (with_reducible refine Below.size (B := 0) ?_)))) (Nat.le_refl _))).mono ?_
  rintro e w8 ⟨rfl, hb8⟩
  clear qi0 qi1 qi2 qi3 qif qil qc0 qc1 qc2 qc3 qcf qcl
  replace Vi := Vi.step0 hb8
  replace Vc := Vc.step0 hb8
  obtain ⟨qi0, qi1, qi2, qi3, qif, qil⟩ := Vi.facts
  obtain ⟨qc0, qc1, qc2, qc3, qcf, qcl⟩ := Vc.facts
  go_wp2_with fail
  refine (HX.out _ (hs.below (B := w.heap.size) (by (repeat' (first | (with_reducible exact Below.refl _ _) | (with_reducible refine below_drewN ?_ _) | (with_reducible refine Below.drew ?_) | (with_reducible refine Below.alloc ?_ ?_ _) | (with_reducible refine Below.setCell ?_ ?_ _) | (with_reducible refine Below.trans ?_ (Below.mono (by with_reducible assumption) ?_)) | omega | (simp only [World.size_alloc] at *; omega) | (with_reducible refine Below.size (B := 0) ?_)))) (Nat.le_refl _))).mono ?_
  rintro e w9 ⟨rfl, hb9⟩
  clear qi0 qi1 qi2 qi3 qif qil qc0 qc1 qc2 qc3 qcf qcl
  replace Vi := Vi.step hb9
  replace Vc := Vc.step hb9
  have Vr := Vb.fresh R hb9
  obtain ⟨qi0, qi1, qi2, qi3, qif, qil⟩ := Vi.facts
  obtain ⟨qr0, qr1, qr2, qr3, qrf, qrl⟩ := Vr.facts
  obtain ⟨qc0, qc1, qc2, qc3, qcf, qcl⟩ := Vc.facts
  go_wp2_with fail
  refine (M4.out _ (hs.below (B := w.heap.size) (by (repeat' (first | (with_reducible exact Below.refl _ _) | (with_reducible refine below_drewN ?_ _) | (with_reducible refine Below.drew ?_) | (with_reducible refine Below.alloc ?_ ?_ _) | (with_reducible refine Below.setCell ?_ ?_ _) | (with_reducible refine Below.trans ?_ (Below.mono (by with_reducible assumption) ?_)) | omega | (simp only [World.size_alloc] at *; omega) | (with_reducible refine Below.size (B := 0) ?_)))) (Nat.le_refl _))).mono ?_
  rintro e w10 ⟨rfl, hb10⟩
  clear qi0 qi1 qi2 qi3 qif qil qr0 qr1 qr2 qr3 qrf qrl qc0 qc1 qc2 qc3 qcf qcl
  replace Vi := Vi.step hb10
  replace Vc := Vc.step hb10
  replace Vr := Vr.step hb10
  have Vx := Vb.fresh X hb10
  have KH : Hid (Below w.heap.size w w10) := Lib.hid (by (repeat' (first | (with_reducible exact Below.refl _ _) | (with_reducible refine below_drewN ?_ _) | (with_reducible refine Below.drew ?_) | (with_reducible refine Below.alloc ?_ ?_ _) | (with_reducible refine Below.setCell ?_ ?_ _) | (with_reducible refine Below.trans ?_ (Below.mono (by with_reducible assumption) ?_)) | omega | (simp only [World.size_alloc] at *; omega) | (with_reducible refine Below.size (B := 0) ?_))))
  clear hb1 hb2 hb3 hb4 hb5 hb6 hb7 hb8 hb9 hb10
  clear Vi
  clear Vc
  obtain ⟨qr0, qr1, qr2, qr3, qrf, qrl⟩ := Vr.facts
  obtain ⟨qx0, qx1, qx2, qx3, qxf, qxl⟩ := Vx.facts
  obtain ⟨NB, hN⟩ : ∃ NB, noneV X = NB := ⟨_, rfl⟩
  have HNN := Lib.hid (fun W => none_c X W)
  rw [hN] at HNN
  have HFF := Lib.hid (fun W => fits_c X R W)
  cases NB
  · have hF := HNF.out.resolve_left (by rw [hN]; decide)
    rw [hF] at HFF
    clear hN hF
    go_wp2_with fail
    refine (HNN.out _).mono ?_
    rintro e w41 ⟨rfl, hb41⟩
    clear qr0 qr1 qr2 qr3 qrf qrl qx0 qx1 qx2 qx3 qxf qxl
    replace Vr := Vr.step0 hb41
    replace Vx := Vx.step0 hb41
    obtain ⟨qr0, qr1, qr2, qr3, qrf, qrl⟩ := Vr.facts
    obtain ⟨qx0, qx1, qx2, qx3, qxf, qxl⟩ := Vx.facts
    go_wp2_with fail
    refine (HFF.out _).mono ?_
    rintro e w42 ⟨rfl, hb42⟩
    clear qr0 qr1 qr2 qr3 qrf qrl qx0 qx1 qx2 qx3 qxf qxl
    replace Vr := Vr.step0 hb42
    replace Vx := Vx.step0 hb42
    go_wp2_with fail
    go_ret
    exact ⟨rfl, KH.out.trans (Below.mono (B := w10.heap.size) (by (repeat' (first | (with_reducible exact Below.refl _ _) | (with_reducible refine below_drewN ?_ _) | (with_reducible refine Below.drew ?_) | (with_reducible refine Below.alloc ?_ ?_ _) | (with_reducible refine Below.setCell ?_ ?_ _) | (with_reducible refine Below.trans ?_ (Below.mono (by with_reducible assumption) ?_)) | omega | (simp only [World.size_alloc, World.size_setCell, World.size_drew, Go.Proofs.YtmimlniofhngjaaDoor.World.size_drewN] at *; omega) | (with_reducible refine Below.size (B := 0) ?_)))) (by have := KH.out.size; omega))⟩
  · clear hN
    go_wp2_with fail
    refine (HNN.out _).mono ?_
    rintro e w41 ⟨rfl, hb41⟩
    clear qr0 qr1 qr2 qr3 qrf qrl qx0 qx1 qx2 qx3 qxf qxl
    replace Vr := Vr.step0 hb41
    replace Vx := Vx.step0 hb41
    go_wp2_with fail
    go_ret
    exact ⟨rfl, KH.out.trans (Below.mono (B := w10.heap.size) (by (repeat' (first | (with_reducible exact Below.refl _ _) | (with_reducible refine below_drewN ?_ _) | (with_reducible refine Below.drew ?_) | (with_reducible refine Below.alloc ?_ ?_ _) | (with_reducible refine Below.setCell ?_ ?_ _) | (with_reducible refine Below.trans ?_ (Below.mono (by with_reducible assumption) ?_)) | omega | (simp only [World.size_alloc, World.size_setCell, World.size_drew, Go.Proofs.YtmimlniofhngjaaDoor.World.size_drewN] at *; omega) | (with_reducible refine Below.size (B := 0) ?_)))) (by have := KH.out.size; omega))⟩

theorem twice_any (s : Nat → Addr) (i a b c : V4) (n : Int) (w : World) (hs : Sent s w) (ht : ETy w) :
    Calls Tryd.prog 5 #[.agg #[.int .i64 i.a, .int .i64 i.b, .int .i64 i.c, .int .i64 i.d], .agg #[.int .i64 a.a, .int .i64 a.b, .int .i64 a.c, .int .i64 a.d], .agg #[.int .i64 b.a, .int .i64 b.b, .int .i64 b.c, .int .i64 b.d], .agg #[.int .i64 c.a, .int .i64 c.b, .int .i64 c.c, .int .i64 c.d], .int .i64 n] w fun e w' => e = .returned (.bool true) ∧ Below w.heap.size w w' := by
  by_cases h1 : (addR i a).2 = 0
  · by_cases h2 : (addR a b).2 = 0
    · cases h3 : goodV c
      · exact twice_e3 s i a b c n w hs ht h1 h2 h3
      · obtain ⟨r, hr1, hr2, hr⟩ := ratio_of n
        by_cases m1 : (mayR i a c r).1 = 0
        · by_cases m2 : (mayR (addR i a).1 b c r).1 = 0
          · exact twice_m3 s i a b c n w hs ht h1 h2 h3 r hr1 hr2 hr m1 m2
          · exact twice_m2 s i a b c n w hs ht h1 h2 h3 r hr1 hr2 hr m1 m2
        · exact twice_m1 s i a b c n w hs ht h1 h2 h3 r hr1 hr2 hr m1
    · exact twice_e2 s i a b c n w hs ht h1 h2
  · exact twice_e1 s i a b c n w hs ht h1
end Go.Proofs.YtmimlniofhngjaaDoor
