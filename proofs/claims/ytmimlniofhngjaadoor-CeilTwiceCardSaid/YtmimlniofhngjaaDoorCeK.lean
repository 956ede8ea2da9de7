/- The walk of the law CeilKeeps: whatever the vectors and the ratio, it returns true. Condition: the package variables lie as the program's text lays them. -/
import Derived.Test.YtmimlniofhngjaaDoorCeA
import Derived.Test.YtmimlniofhngjaaDoorCeL
import Derived.Deep.QuietTactic
namespace Go.Proofs.YtmimlniofhngjaaDoor
open Go Go.RowKit

/-- What kind tells of May's answer. -/
theorem kind_may (s : Nat → Addr) (r : Nat × Nat) (ev : Value) (w : World) (hs : Sent s w) (hv : MayV s w r ev) (hr : r.1 ≤ 14) :
    Calls Tryd.prog 9 #[ev] w fun e w' => e = .returned (.int .i64 r.1) ∧ Below w.heap.size w w' := by
  rcases hv with ⟨h9, g, rfl, hg⟩ | ⟨_, rfl⟩
  · exact kind_any s r.1 _ w hs (.inr ⟨by omega, hr, .inr ⟨g, 0, rfl, by rw [h9]; exact cell_of_heap hg 2⟩⟩)
  · exact kind_errV s r.1 w hs hr
theorem may_le (i m c : V4) (n : Int) : (mayR i m c n).1 ≤ 14 := by
  unfold mayR
  have h := add_le i m
  split
  · split
    · split
      · exact (by decide : (9 : Nat) ≤ 14)
      · exact Nat.zero_le _
    · exact h
  · exact (by decide : (1 : Nat) ≤ 14)

set_option maxRecDepth 100000 in
set_option maxHeartbeats 3200000 in
theorem keeps_bad1 (s : Nat → Addr) (i m c : V4) (n : Int) (w : World) (hs : Sent s w) (ht : ETy w) (hi : goodV i = false) :
    Calls Tryd.prog 4 #[.agg #[.int .i64 i.a, .int .i64 i.b, .int .i64 i.c, .int .i64 i.d], .agg #[.int .i64 m.a, .int .i64 m.b, .int .i64 m.c, .int .i64 m.d], .agg #[.int .i64 c.a, .int .i64 c.b, .int .i64 c.c, .int .i64 c.d], .int .i64 n] w fun e w' => e = .returned (.bool true) ∧ Below w.heap.size w w' := by
  have H0 := Lib.hid (fun W => good_c i W)
  rw [hi] at H0
  clear hi
  go_enter Tryd.func4, Tryd.ntmps4
  go_wp2_with fail
  refine (awake_c s _ (hs.below (B := w.heap.size) (by (repeat' (first | (with_reducible exact Below.refl _ _) | (with_reducible refine below_drewN ?_ _) | (with_reducible refine Below.drew ?_) | (with_reducible refine Below.alloc ?_ ?_ _) | (with_reducible refine Below.setCell ?_ ?_ _) | (with_reducible refine Below.trans ?_ (Below.mono (by with_reducible assumption) ?_)) | omega | (simp only [World.size_alloc] at *; omega) | (with_reducible refine Below.size (B := 0) ?_)))) (Nat.le_refl _)) (ht.below (B := w.heap.size) (by (repeat' (first | (with_reducible exact Below.refl _ _) | (with_reducible refine below_drewN ?_ _) | (with_reducible refine Below.drew ?_) | (with_reducible refine Below.alloc ?_ ?_ _) | (with_reducible refine Below.setCell ?_ ?_ _) | (with_reducible refine Below.trans ?_ (Below.mono (by with_reducible assumption) ?_)) | omega | (simp only [World.size_alloc] at *; omega) | (with_reducible refine Below.size (B := 0) ?_)))) (Nat.le_refl _))).mono ?_
  rintro e w1 ⟨rfl, hb1⟩
  have Vi : Vb w1 w.heap.size i := (((Vb.new w i).alloc _).alloc _).step0 hb1
  have Vm : Vb w1 (w.heap.size + 1) m := ((Vb.new_at (by simp) m).alloc _).step0 hb1
  have Vc : Vb w1 (w.heap.size + 1 + 1) c := (Vb.new_at (by simp) c).step0 hb1
  obtain ⟨qi0, qi1, qi2, qi3, qif, qil⟩ := Vi.facts
  go_wp2_with fail
  refine (H0.out _).mono ?_
  rintro e w2 ⟨rfl, hb2⟩
  clear qi0 qi1 qi2 qi3 qif qil
  replace Vi := Vi.step0 hb2
  replace Vm := Vm.step0 hb2
  replace Vc := Vc.step0 hb2
  go_wp2_with fail
  go_ret
  exact ⟨rfl, by (repeat' (first | (with_reducible exact Below.refl _ _) | (with_reducible refine below_drewN ?_ _) | (with_reducible refine Below.drew ?_) | (with_reducible refine Below.alloc ?_ ?_ _) | (with_reducible refine Below.setCell ?_ ?_ _) | (with_reducible refine Below.trans ?_ (Below.mono (by with_reducible assumption) ?_)) | omega | (simp only [World.size_alloc] at *; omega) | (with_reducible refine Below.size (B := 0) ?_)))⟩

set_option maxRecDepth 100000 in
set_option maxHeartbeats 3200000 in
theorem keeps_bad2 (s : Nat → Addr) (i m c : V4) (n : Int) (w : World) (hs : Sent s w) (ht : ETy w) (hi : goodV i = true) (hm : goodV m = false) :
    Calls Tryd.prog 4 #[.agg #[.int .i64 i.a, .int .i64 i.b, .int .i64 i.c, .int .i64 i.d], .agg #[.int .i64 m.a, .int .i64 m.b, .int .i64 m.c, .int .i64 m.d], .agg #[.int .i64 c.a, .int .i64 c.b, .int .i64 c.c, .int .i64 c.d], .int .i64 n] w fun e w' => e = .returned (.bool true) ∧ Below w.heap.size w w' := by
  have H0 := Lib.hid (fun W => good_c i W)
  rw [hi] at H0
  have H1 := Lib.hid (fun W => good_c m W)
  rw [hm] at H1
  clear hi
  clear hm
  go_enter Tryd.func4, Tryd.ntmps4
  go_wp2_with fail
  refine (awake_c s _ (hs.below (B := w.heap.size) (by (repeat' (first | (with_reducible exact Below.refl _ _) | (with_reducible refine below_drewN ?_ _) | (with_reducible refine Below.drew ?_) | (with_reducible refine Below.alloc ?_ ?_ _) | (with_reducible refine Below.setCell ?_ ?_ _) | (with_reducible refine Below.trans ?_ (Below.mono (by with_reducible assumption) ?_)) | omega | (simp only [World.size_alloc] at *; omega) | (with_reducible refine Below.size (B := 0) ?_)))) (Nat.le_refl _)) (ht.below (B := w.heap.size) (by (repeat' (first | (with_reducible exact Below.refl _ _) | (with_reducible refine below_drewN ?_ _) | (with_reducible refine Below.drew ?_) | (with_reducible refine Below.alloc ?_ ?_ _) | (with_reducible refine Below.setCell ?_ ?_ _) | (with_reducible refine Below.trans ?_ (Below.mono (by with_reducible assumption) ?_)) | omega | (simp only [World.size_alloc] at *; omega) | (with_reducible refine Below.size (B := 0) ?_)))) (Nat.le_refl _))).mono ?_
  rintro e w1 ⟨rfl, hb1⟩
  have Vi : Vb w1 w.heap.size i := (((Vb.new w i).alloc _).alloc _).step0 hb1
  have Vm : Vb w1 (w.heap.size + 1) m := ((Vb.new_at (by simp) m).alloc _).step0 hb1
  have Vc : Vb w1 (w.heap.size + 1 + 1) c := (Vb.new_at (by simp) c).step0 hb1
  obtain ⟨qi0, qi1, qi2, qi3, qif, qil⟩ := Vi.facts
  go_wp2_with fail
  refine (H0.out _).mono ?_
  rintro e w2 ⟨rfl, hb2⟩
  clear qi0 qi1 qi2 qi3 qif qil
  replace Vi := Vi.step0 hb2
  replace Vm := Vm.step0 hb2
  replace Vc := Vc.step0 hb2
  obtain ⟨qm0, qm1, qm2, qm3, qmf, qml⟩ := Vm.facts
  go_wp2_with fail
  refine (H1.out _).mono ?_
  rintro e w3 ⟨rfl, hb3⟩
  clear qm0 qm1 qm2 qm3 qmf qml
  replace Vi := Vi.step0 hb3
  replace Vm := Vm.step0 hb3
  replace Vc := Vc.step0 hb3
  go_wp2_with fail
  go_ret
  exact ⟨rfl, by (repeat' (first | (with_reducible exact Below.refl _ _) | (with_reducible refine below_drewN ?_ _) | (with_reducible refine Below.drew ?_) | (with_reducible refine Below.alloc ?_ ?_ _) | (with_reducible refine Below.setCell ?_ ?_ _) | (with_reducible refine Below.trans ?_ (Below.mono (by with_reducible assumption) ?_)) | omega | (simp only [World.size_alloc] at *; omega) | (with_reducible refine Below.size (B := 0) ?_)))⟩

set_option maxRecDepth 100000 in
set_option maxHeartbeats 3200000 in
theorem keeps_bad3 (s : Nat → Addr) (i m c : V4) (n : Int) (w : World) (hs : Sent s w) (ht : ETy w) (hi : goodV i = true) (hm : goodV m = true) (hc : goodV c = false) :
    Calls Tryd.prog 4 #[.agg #[.int .i64 i.a, .int .i64 i.b, .int .i64 i.c, .int .i64 i.d], .agg #[.int .i64 m.a, .int .i64 m.b, .int .i64 m.c, .int .i64 m.d], .agg #[.int .i64 c.a, .int .i64 c.b, .int .i64 c.c, .int .i64 c.d], .int .i64 n] w fun e w' => e = .returned (.bool true) ∧ Below w.heap.size w w' := by
  have H0 := Lib.hid (fun W => good_c i W)
  rw [hi] at H0
  have H1 := Lib.hid (fun W => good_c m W)
  rw [hm] at H1
  have H2 := Lib.hid (fun W => good_c c W)
  rw [hc] at H2
  clear hi
  clear hm
  clear hc
  go_enter Tryd.func4, Tryd.ntmps4
  go_wp2_with fail
  refine (awake_c s _ (hs.below (B := w.heap.size) (by (repeat' (first | (with_reducible exact Below.refl _ _) | (with_reducible refine below_drewN ?_ _) | (with_reducible refine Below.drew ?_) | (with_reducible refine Below.alloc ?_ ?_ _) | (with_reducible refine Below.setCell ?_ ?_ _) | (with_reducible refine Below.trans ?_ (Below.mono (by with_reducible assumption) ?_)) | omega | (simp only [World.size_alloc] at *; omega) | (with_reducible refine Below.size (B := 0) ?_)))) (Nat.le_refl _)) (ht.below (B := w.heap.size) (by (repeat' (first | (with_reducible exact Below.refl _ _) | (with_reducible refine below_drewN ?_ _) | (with_reducible refine Below.drew ?_) | (with_reducible refine Below.alloc ?_ ?_ _) | (with_reducible refine Below.setCell ?_ ?_ _) | (with_reducible refine Below.trans ?_ (Below.mono (by with_reducible assumption) ?_)) | omega | (simp only [World.size_alloc] at *; omega) | (with_reducible refine Below.size (B := 0) ?_)))) (Nat.le_refl _))).mono ?_
  rintro e w1 ⟨rfl, hb1⟩
  have Vi : Vb w1 w.heap.size i := (((Vb.new w i).alloc _).alloc _).step0 hb1
  have Vm : Vb w1 (w.heap.size + 1) m := ((Vb.new_at (by simp) m).alloc _).step0 hb1
  have Vc : Vb w1 (w.heap.size + 1 + 1) c := (Vb.new_at (by simp) c).step0 hb1
  obtain ⟨qi0, qi1, qi2, qi3, qif, qil⟩ := Vi.facts
  go_wp2_with fail
  refine (H0.out _).mono ?_
  rintro e w2 ⟨rfl, hb2⟩
  clear qi0 qi1 qi2 qi3 qif qil
  replace Vi := Vi.step0 hb2
  replace Vm := Vm.step0 hb2
  replace Vc := Vc.step0 hb2
  obtain ⟨qm0, qm1, qm2, qm3, qmf, qml⟩ := Vm.facts
  go_wp2_with fail
  refine (H1.out _).mono ?_
  rintro e w3 ⟨rfl, hb3⟩
  clear qm0 qm1 qm2 qm3 qmf qml
  replace Vi := Vi.step0 hb3
  replace Vm := Vm.step0 hb3
  replace Vc := Vc.step0 hb3
  obtain ⟨qc0, qc1, qc2, qc3, qcf, qcl⟩ := Vc.facts
  go_wp2_with fail
  refine (H2.out _).mono ?_
  rintro e w4 ⟨rfl, hb4⟩
  clear qc0 qc1 qc2 qc3 qcf qcl
  replace Vi := Vi.step0 hb4
  replace Vm := Vm.step0 hb4
  replace Vc := Vc.step0 hb4
  go_wp2_with fail
  go_ret
  exact ⟨rfl, by (repeat' (first | (with_reducible exact Below.refl _ _) | (with_reducible refine below_drewN ?_ _) | (with_reducible refine Below.drew ?_) | (with_reducible refine Below.alloc ?_ ?_ _) | (with_reducible refine Below.setCell ?_ ?_ _) | (with_reducible refine Below.trans ?_ (Below.mono (by with_reducible assumption) ?_)) | omega | (simp only [World.size_alloc] at *; omega) | (with_reducible refine Below.size (B := 0) ?_)))⟩

set_option maxRecDepth 100000 in
set_option maxHeartbeats 3200000 in
theorem keeps_bad4 (s : Nat → Addr) (i m c : V4) (n : Int) (w : World) (hs : Sent s w) (ht : ETy w) (hi : goodV i = true) (hm : goodV m = true) (hc : goodV c = true) (hn : n < 1) :
    Calls Tryd.prog 4 #[.agg #[.int .i64 i.a, .int .i64 i.b, .int .i64 i.c, .int .i64 i.d], .agg #[.int .i64 m.a, .int .i64 m.b, .int .i64 m.c, .int .i64 m.d], .agg #[.int .i64 c.a, .int .i64 c.b, .int .i64 c.c, .int .i64 c.d], .int .i64 n] w fun e w' => e = .returned (.bool true) ∧ Below w.heap.size w w' := by
  have H0 := Lib.hid (fun W => good_c i W)
  rw [hi] at H0
  have H1 := Lib.hid (fun W => good_c m W)
  rw [hm] at H1
  have H2 := Lib.hid (fun W => good_c c W)
  rw [hc] at H2
  clear hi
  clear hm
  clear hc
  go_enter Tryd.func4, Tryd.ntmps4
  go_wp2_with fail
  refine (awake_c s _ (hs.below (B := w.heap.size) (by (repeat' (first | (with_reducible exact Below.refl _ _) | (with_reducible refine below_drewN ?_ _) | (with_reducible refine Below.drew ?_) | (with_reducible refine Below.alloc ?_ ?_ _) | (with_reducible refine Below.setCell ?_ ?_ _) | (with_reducible refine Below.trans ?_ (Below.mono (by with_reducible assumption) ?_)) | omega | (simp only [World.size_alloc] at *; omega) | (with_reducible refine Below.size (B := 0) ?_)))) (Nat.le_refl _)) (ht.below (B := w.heap.size) (by (repeat' (first | (with_reducible exact Below.refl _ _) | (with_reducible refine below_drewN ?_ _) | (with_reducible refine Below.drew ?_) | (with_reducible refine Below.alloc ?_ ?_ _) | (with_reducible refine Below.setCell ?_ ?_ _) | (with_reducible refine Below.trans ?_ (Below.mono (by with_reducible assumption) ?_)) | omega | (simp only [World.size_alloc] at *; omega) | (with_reducible refine Below.size (B := 0) ?_)))) (Nat.le_refl _))).mono ?_
  rintro e w1 ⟨rfl, hb1⟩
  have Vi : Vb w1 w.heap.size i := (((Vb.new w i).alloc _).alloc _).step0 hb1
  have Vm : Vb w1 (w.heap.size + 1) m := ((Vb.new_at (by simp) m).alloc _).step0 hb1
  have Vc : Vb w1 (w.heap.size + 1 + 1) c := (Vb.new_at (by simp) c).step0 hb1
  obtain ⟨qi0, qi1, qi2, qi3, qif, qil⟩ := Vi.facts
  go_wp2_with fail
  refine (H0.out _).mono ?_
  rintro e w2 ⟨rfl, hb2⟩
  clear qi0 qi1 qi2 qi3 qif qil
  replace Vi := Vi.step0 hb2
  replace Vm := Vm.step0 hb2
  replace Vc := Vc.step0 hb2
  obtain ⟨qm0, qm1, qm2, qm3, qmf, qml⟩ := Vm.facts
  go_wp2_with fail
  refine (H1.out _).mono ?_
  rintro e w3 ⟨rfl, hb3⟩
  clear qm0 qm1 qm2 qm3 qmf qml
  replace Vi := Vi.step0 hb3
  replace Vm := Vm.step0 hb3
  replace Vc := Vc.step0 hb3
  obtain ⟨qc0, qc1, qc2, qc3, qcf, qcl⟩ := Vc.facts
  go_wp2_with fail
  refine (H2.out _).mono ?_
  rintro e w4 ⟨rfl, hb4⟩
  clear qc0 qc1 qc2 qc3 qcf qcl
  replace Vi := Vi.step0 hb4
  replace Vm := Vm.step0 hb4
  replace Vc := Vc.step0 hb4
  go_wp2_with fail
  go_ret
  exact ⟨rfl, by (repeat' (first | (with_reducible exact Below.refl _ _) | (with_reducible refine below_drewN ?_ _) | (with_reducible refine Below.drew ?_) | (with_reducible refine Below.alloc ?_ ?_ _) | (with_reducible refine Below.setCell ?_ ?_ _) | (with_reducible refine Below.trans ?_ (Below.mono (by with_reducible assumption) ?_)) | omega | (simp only [World.size_alloc] at *; omega) | (with_reducible refine Below.size (B := 0) ?_)))⟩

set_option maxRecDepth 100000 in
set_option maxHeartbeats 3200000 in
theorem keeps_bad5 (s : Nat → Addr) (i m c : V4) (n : Int) (w : World) (hs : Sent s w) (ht : ETy w) (hi : goodV i = true) (hm : goodV m = true) (hc : goodV c = true) (hn0 : 1 ≤ n) (hn : 15 < n) :
    Calls Tryd.prog 4 #[.agg #[.int .i64 i.a, .int .i64 i.b, .int .i64 i.c, .int .i64 i.d], .agg #[.int .i64 m.a, .int .i64 m.b, .int .i64 m.c, .int .i64 m.d], .agg #[.int .i64 c.a, .int .i64 c.b, .int .i64 c.c, .int .i64 c.d], .int .i64 n] w fun e w' => e = .returned (.bool true) ∧ Below w.heap.size w w' := by
  have H0 := Lib.hid (fun W => good_c i W)
  rw [hi] at H0
  have H1 := Lib.hid (fun W => good_c m W)
  rw [hm] at H1
  have H2 := Lib.hid (fun W => good_c c W)
  rw [hc] at H2
  clear hi
  clear hm
  clear hc
  go_enter Tryd.func4, Tryd.ntmps4
  go_wp2_with fail
  refine (awake_c s _ (hs.below (B := w.heap.size) (by (repeat' (first | (with_reducible exact Below.refl _ _) | (with_reducible refine below_drewN ?_ _) | (with_reducible refine Below.drew ?_) | (with_reducible refine Below.alloc ?_ ?_ _) | (with_reducible refine Below.setCell ?_ ?_ _) | (with_reducible refine Below.trans ?_ (Below.mono (by with_reducible assumption) ?_)) | omega | (simp only [World.size_alloc] at *; omega) | (with_reducible refine Below.size (B := 0) ?_)))) (Nat.le_refl _)) (ht.below (B := w.heap.size) (by (repeat' (first | (with_reducible exact Below.refl _ _) | (with_reducible refine below_drewN ?_ _) | (with_reducible refine Below.drew ?_) | (with_reducible refine Below.alloc ?_ ?_ _) | (with_reducible refine Below.setCell ?_ ?_ _) | (with_reducible refine Below.trans ?_ (Below.mono (by with_reducible assumption) ?_)) | omega | (simp only [World.size_alloc] at *; omega) | (with_reducible refine Below.size (B := 0) ?_)))) (Nat.le_refl _))).mono ?_
  rintro e w1 ⟨rfl, hb1⟩
  have Vi : Vb w1 w.heap.size i := (((Vb.new w i).alloc _).alloc _).step0 hb1
  have Vm : Vb w1 (w.heap.size + 1) m := ((Vb.new_at (by simp) m).alloc _).step0 hb1
  have Vc : Vb w1 (w.heap.size + 1 + 1) c := (Vb.new_at (by simp) c).step0 hb1
  obtain ⟨qi0, qi1, qi2, qi3, qif, qil⟩ := Vi.facts
  go_wp2_with fail
  refine (H0.out _).mono ?_
  rintro e w2 ⟨rfl, hb2⟩
  clear qi0 qi1 qi2 qi3 qif qil
  replace Vi := Vi.step0 hb2
  replace Vm := Vm.step0 hb2
  replace Vc := Vc.step0 hb2
  obtain ⟨qm0, qm1, qm2, qm3, qmf, qml⟩ := Vm.facts
  go_wp2_with fail
  refine (H1.out _).mono ?_
  rintro e w3 ⟨rfl, hb3⟩
  clear qm0 qm1 qm2 qm3 qmf qml
  replace Vi := Vi.step0 hb3
  replace Vm := Vm.step0 hb3
  replace Vc := Vc.step0 hb3
  obtain ⟨qc0, qc1, qc2, qc3, qcf, qcl⟩ := Vc.facts
  go_wp2_with fail
  refine (H2.out _).mono ?_
  rintro e w4 ⟨rfl, hb4⟩
  clear qc0 qc1 qc2 qc3 qcf qcl
  replace Vi := Vi.step0 hb4
  replace Vm := Vm.step0 hb4
  replace Vc := Vc.step0 hb4
  go_wp2_with fail
  go_ret
  exact ⟨rfl, by (repeat' (first | (with_reducible exact Below.refl _ _) | (with_reducible refine below_drewN ?_ _) | (with_reducible refine Below.drew ?_) | (with_reducible refine Below.alloc ?_ ?_ _) | (with_reducible refine Below.setCell ?_ ?_ _) | (with_reducible refine Below.trans ?_ (Below.mono (by with_reducible assumption) ?_)) | omega | (simp only [World.size_alloc] at *; omega) | (with_reducible refine Below.size (B := 0) ?_)))⟩

theorem may_nil (s : Nat → Addr) (i m c : V4) (n : Int) (w : World) (hs : Sent s w) (h : (mayR i m c n).1 = 0) :
    Calls Tryd.prog 7 #[.agg #[.int .i64 i.a, .int .i64 i.b, .int .i64 i.c, .int .i64 i.d], .agg #[.int .i64 m.a, .int .i64 m.b, .int .i64 m.c, .int .i64 m.d], .agg #[.int .i64 c.a, .int .i64 c.b, .int .i64 c.c, .int .i64 c.d], .int .i64 n] w fun e w' => e = .returned .nilIface ∧ Below w.heap.size w w' :=
  (may_c s i m c n w hs).mono fun e w' ⟨⟨ev, he, hv⟩, hb⟩ => by
    rcases hv with hv | hv
    · exact absurd hv.1 (by omega)
    · exact ⟨by rw [he, hv.2, h]; rfl, hb⟩
theorem may_err (s : Nat → Addr) (i m c : V4) (n : Int) (w : World) (hs : Sent s w) {k : Nat} (h : (mayR i m c n).1 = k + 1) (h9 : k ≠ 8) :
    Calls Tryd.prog 7 #[.agg #[.int .i64 i.a, .int .i64 i.b, .int .i64 i.c, .int .i64 i.d], .agg #[.int .i64 m.a, .int .i64 m.b, .int .i64 m.c, .int .i64 m.d], .agg #[.int .i64 c.a, .int .i64 c.b, .int .i64 c.c, .int .i64 c.d], .int .i64 n] w fun e w' => e = .returned (.iface 83 (.pointer (some (s k)))) ∧ Below w.heap.size w w' :=
  (may_c s i m c n w hs).mono fun e w' ⟨⟨ev, he, hv⟩, hb⟩ => by
    rcases hv with hv | hv
    · exact absurd hv.1 (by omega)
    · exact ⟨by rw [he, hv.2, h]; rfl, hb⟩
theorem may_flt (s : Nat → Addr) (i m c : V4) (n : Int) (w : World) (hs : Sent s w) {k : Nat} (h : mayR i m c n = (9, k)) :
    Calls Tryd.prog 7 #[.agg #[.int .i64 i.a, .int .i64 i.b, .int .i64 i.c, .int .i64 i.d], .agg #[.int .i64 m.a, .int .i64 m.b, .int .i64 m.c, .int .i64 m.d], .agg #[.int .i64 c.a, .int .i64 c.b, .int .i64 c.c, .int .i64 c.d], .int .i64 n] w fun e w' => (∃ g, e = .returned (.iface 31 (.pointer (some ⟨g, 0, none⟩))) ∧ w'.heap[g]? = some (.cells (ceilRow s k) 35 (0, 0))) ∧ Below w.heap.size w w' :=
  (may_c s i m c n w hs).mono fun e w' ⟨⟨ev, he, hv⟩, hb⟩ => by
    rw [h] at hv
    rcases hv with ⟨_, g, h1, h2⟩ | hv
    · exact ⟨⟨g, by rw [he, h1], h2⟩, hb⟩
    · exact absurd rfl hv.1
theorem exc_ok (s : Nat → Addr) (x c : V4) (n : Int) (w : World) (hs : Sent s w) (hx : goodV x = true) (hc : goodV c = true) (hn : ratB n = true) :
    Calls Tryd.prog 12 #[.agg #[.int .i64 x.a, .int .i64 x.b, .int .i64 x.c, .int .i64 x.d], .agg #[.int .i64 c.a, .int .i64 c.b, .int .i64 c.c, .int .i64 c.d], .int .i64 n] w fun e w' => e = .returned (.tuple #[.agg #[.int .i64 ((overV x (topV c n))).a, .int .i64 ((overV x (topV c n))).b, .int .i64 ((overV x (topV c n))).c, .int .i64 ((overV x (topV c n))).d], .nilIface]) ∧ Below w.heap.size w w' := by
  have h := exc_good s x c n w hs hx hc hn
  rw [show excR x c n = (overV x (topV c n), 0) by unfold excR; rw [hx, hc, hn]; rfl] at h
  exact h
theorem room_ok (s : Nat → Addr) (x c : V4) (n : Int) (w : World) (hs : Sent s w) (hx : goodV x = true) (hc : goodV c = true) (hn : ratB n = true) :
    Calls Tryd.prog 13 #[.agg #[.int .i64 x.a, .int .i64 x.b, .int .i64 x.c, .int .i64 x.d], .agg #[.int .i64 c.a, .int .i64 c.b, .int .i64 c.c, .int .i64 c.d], .int .i64 n] w fun e w' => e = .returned (.tuple #[.agg #[.int .i64 ((overV (topV c n) x)).a, .int .i64 ((overV (topV c n) x)).b, .int .i64 ((overV (topV c n) x)).c, .int .i64 ((overV (topV c n) x)).d], .nilIface]) ∧ Below w.heap.size w w' := by
  have h := room_good s x c n w hs hx hc hn
  rw [show roomR x c n = (overV (topV c n) x, 0) by unfold roomR; rw [hx, hc, hn]; rfl] at h
  exact h


set_option maxRecDepth 100000 in
set_option maxHeartbeats 3200000 in
theorem keeps_over (s : Nat → Addr) (i m c : V4) (n : Int) (w : World) (hs : Sent s w) (ht : ETy w) (hi : goodV i = true) (hm : goodV m = true) (hc : goodV c = true) (hn0 : 1 ≤ n) (hn1 : n ≤ 15) (hk : (mayR i m c n).1 = 3 + 1) :
    Calls Tryd.prog 4 #[.agg #[.int .i64 i.a, .int .i64 i.b, .int .i64 i.c, .int .i64 i.d], .agg #[.int .i64 m.a, .int .i64 m.b, .int .i64 m.c, .int .i64 m.d], .agg #[.int .i64 c.a, .int .i64 c.b, .int .i64 c.c, .int .i64 c.d], .int .i64 n] w fun e w' => e = .returned (.bool true) ∧ Below w.heap.size w w' := by
  have H0 := Lib.hid (fun W => good_c i W)
  rw [hi] at H0
  have H1 := Lib.hid (fun W => good_c m W)
  rw [hm] at H1
  have H2 := Lib.hid (fun W => good_c c W)
  rw [hc] at H2
  have hr : ratB n = true := ratB_iff.2 ⟨hn0, by omega⟩
  have HM := Lib.hid (fun W h => may_err s i m c n W h hk (by decide))
  have HR := Lib.hid (fun W h => room_ok s i c n W h hi hc hr)
  have HX := Lib.hid (fun W h => exc_ok s i c n W h hi hc hr)
  generalize overV (topV c n) i = R at HR
  generalize overV i (topV c n) = X at HX
  clear hi hm hc hr hk
  go_enter Tryd.func4, Tryd.ntmps4
  go_wp2_with fail
  refine (awake_c s _ (hs.below (B := w.heap.size) (by (repeat' (first | (with_reducible exact Below.refl _ _) | (with_reducible refine below_drewN ?_ _) | (with_reducible refine Below.drew ?_) | (with_reducible refine Below.alloc ?_ ?_ _) | (with_reducible refine Below.setCell ?_ ?_ _) | (with_reducible refine Below.trans ?_ (Below.mono (by with_reducible assumption) ?_)) | omega | (simp only [World.size_alloc] at *; omega) | (with_reducible refine Below.size (B := 0) ?_)))) (Nat.le_refl _)) (ht.below (B := w.heap.size) (by (repeat' (first | (with_reducible exact Below.refl _ _) | (with_reducible refine below_drewN ?_ _) | (with_reducible refine Below.drew ?_) | (with_reducible refine Below.alloc ?_ ?_ _) | (with_reducible refine Below.setCell ?_ ?_ _) | (with_reducible refine Below.trans ?_ (Below.mono (by with_reducible assumption) ?_)) | omega | (simp only [World.size_alloc] at *; omega) | (with_reducible refine Below.size (B := 0) ?_)))) (Nat.le_refl _))).mono ?_
  rintro e w1 ⟨rfl, hb1⟩
  have Vi : Vb w1 w.heap.size i := (((Vb.new w i).alloc _).alloc _).step0 hb1
  have Vm : Vb w1 (w.heap.size + 1) m := ((Vb.new_at (by simp) m).alloc _).step0 hb1
  have Vc : Vb w1 (w.heap.size + 1 + 1) c := (Vb.new_at (by simp) c).step0 hb1
  obtain ⟨qi0, qi1, qi2, qi3, qif, qil⟩ := Vi.facts
  go_wp2_with fail
  refine (H0.out _).mono ?_
  rintro e w2 ⟨rfl, hb2⟩
  clear qi0 qi1 qi2 qi3 qif qil
  replace Vi := Vi.step0 hb2
  replace Vm := Vm.step0 hb2
  replace Vc := Vc.step0 hb2
  obtain ⟨qm0, qm1, qm2, qm3, qmf, qml⟩ := Vm.facts
  go_wp2_with fail
  refine (H1.out _).mono ?_
  rintro e w3 ⟨rfl, hb3⟩
  clear qm0 qm1 qm2 qm3 qmf qml
  replace Vi := Vi.step0 hb3
  replace Vm := Vm.step0 hb3
  replace Vc := Vc.step0 hb3
  obtain ⟨qc0, qc1, qc2, qc3, qcf, qcl⟩ := Vc.facts
  go_wp2_with fail
  refine (H2.out _).mono ?_
  rintro e w4 ⟨rfl, hb4⟩
  clear qc0 qc1 qc2 qc3 qcf qcl
  replace Vi := Vi.step0 hb4
  replace Vm := Vm.step0 hb4
  replace Vc := Vc.step0 hb4
  obtain ⟨qi0, qi1, qi2, qi3, qif, qil⟩ := Vi.facts
  obtain ⟨qm0, qm1, qm2, qm3, qmf, qml⟩ := Vm.facts
  obtain ⟨qc0, qc1, qc2, qc3, qcf, qcl⟩ := Vc.facts
  go_wp2_with fail
  refine (HM.out _ (hs.below (B := w.heap.size) (by (repeat' (first | (with_reducible exact Below.refl _ _) | (with_reducible refine below_drewN ?_ _) | (with_reducible refine Below.drew ?_) | (with_reducible refine Below.alloc ?_ ?_ _) | (with_reducible refine Below.setCell ?_ ?_ _) | (with_reducible refine Below.trans ?_ (Below.mono (by with_reducible assumption) ?_)) | omega | (simp only [World.size_alloc] at *; omega) | (with_reducible refine Below.size (B := 0) ?_)))) (Nat.le_refl _))).mono ?_
  rintro e w5 ⟨rfl, hb5⟩
  clear qi0 qi1 qi2 qi3 qif qil qm0 qm1 qm2 qm3 qmf qml qc0 qc1 qc2 qc3 qcf qcl
  replace Vi := Vi.step0 hb5
  replace Vm := Vm.step0 hb5
  replace Vc := Vc.step0 hb5
  obtain ⟨qi0, qi1, qi2, qi3, qif, qil⟩ := Vi.facts
  obtain ⟨qc0, qc1, qc2, qc3, qcf, qcl⟩ := Vc.facts
  go_wp2_with fail
  refine (HR.out _ (hs.below (B := w.heap.size) (by (repeat' (first | (with_reducible exact Below.refl _ _) | (with_reducible refine below_drewN ?_ _) | (with_reducible refine Below.drew ?_) | (with_reducible refine Below.alloc ?_ ?_ _) | (with_reducible refine Below.setCell ?_ ?_ _) | (with_reducible refine Below.trans ?_ (Below.mono (by with_reducible assumption) ?_)) | omega | (simp only [World.size_alloc] at *; omega) | (with_reducible refine Below.size (B := 0) ?_)))) (Nat.le_refl _))).mono ?_
  rintro e w6 ⟨rfl, hb6⟩
  clear qi0 qi1 qi2 qi3 qif qil qc0 qc1 qc2 qc3 qcf qcl
  replace Vi := Vi.step0 hb6
  replace Vm := Vm.step0 hb6
  replace Vc := Vc.step0 hb6
  obtain ⟨qi0, qi1, qi2, qi3, qif, qil⟩ := Vi.facts
  obtain ⟨qc0, qc1, qc2, qc3, qcf, qcl⟩ := Vc.facts
  go_wp2_with fail
  refine (HX.out _ (hs.below (B := w.heap.size) (by (repeat' (first | (with_reducible exact Below.refl _ _) | (with_reducible refine below_drewN ?_ _) | (with_reducible refine Below.drew ?_) | (with_reducible refine Below.alloc ?_ ?_ _) | (with_reducible refine Below.setCell ?_ ?_ _) | (with_reducible refine Below.trans ?_ (Below.mono (by with_reducible assumption) ?_)) | omega | (simp only [World.size_alloc] at *; omega) | (with_reducible refine Below.size (B := 0) ?_)))) (Nat.le_refl _))).mono ?_
  rintro e w7 ⟨rfl, hb7⟩
  clear qi0 qi1 qi2 qi3 qif qil qc0 qc1 qc2 qc3 qcf qcl
  replace Vi := Vi.step hb7
  replace Vm := Vm.step hb7
  replace Vc := Vc.step hb7
  have Vr := Vb.fresh R hb7
  clear Vi
  clear Vm
  clear Vc
  clear Vr
  go_wp2_with fail
  refine (kind_any s 4 (.iface 83 (.pointer (some (s 3)))) _ (hs.below (B := w.heap.size) (by (repeat' (first | (with_reducible exact Below.refl _ _) | (with_reducible refine below_drewN ?_ _) | (with_reducible refine Below.drew ?_) | (with_reducible refine Below.alloc ?_ ?_ _) | (with_reducible refine Below.setCell ?_ ?_ _) | (with_reducible refine Below.trans ?_ (Below.mono (by with_reducible assumption) ?_)) | omega | (simp only [World.size_alloc] at *; omega) | (with_reducible refine Below.size (B := 0) ?_)))) (Nat.le_refl _)) (.inr ⟨by omega, by omega, .inl rfl⟩)).mono ?_
  rintro e w8 ⟨rfl, hb8⟩
  have Vx := Vb.fresh X hb8
  clear Vx
  go_wp2_with fail
  go_ret
  exact ⟨rfl, by (repeat' (first | (with_reducible exact Below.refl _ _) | (with_reducible refine below_drewN ?_ _) | (with_reducible refine Below.drew ?_) | (with_reducible refine Below.alloc ?_ ?_ _) | (with_reducible refine Below.setCell ?_ ?_ _) | (with_reducible refine Below.trans ?_ (Below.mono (by with_reducible assumption) ?_)) | omega | (simp only [World.size_alloc] at *; omega) | (with_reducible refine Below.size (B := 0) ?_)))⟩

end Go.Proofs.YtmimlniofhngjaaDoor
