/- The contract of awake: the examples of the document stand. Condition: the package variables lie as the program's text lays them. -/
import Derived.Test.YthhjdebpbkkpbaaDoorSum
import Derived.Test.YthhjdebpbkkpbaaDoorKind
import Derived.Test.YthhjdebpbkkpbaaDoorAs
namespace Go.Proofs.YthhjdebpbkkpbaaDoor
open Go Go.RowKit

theorem aw_add (s : Nat → Addr) (w : World) (hs : Sent s w) :
    Calls Tryd.prog 8 #[.agg #[.int .i64 1, .int .i64 2, .int .i64 3, .int .i64 4], .agg #[.int .i64 1, .int .i64 1, .int .i64 1, .int .i64 1]] w fun e w' => e = .returned (.tuple #[.agg #[.int .i64 2, .int .i64 3, .int .i64 4, .int .i64 5], .nilIface]) ∧ Below w.heap.size w w' :=
  add_ok s ⟨1, 2, 3, 4⟩ ⟨1, 1, 1, 1⟩ w hs (by decide)

theorem aw_sub (s : Nat → Addr) (w : World) (hs : Sent s w) :
    Calls Tryd.prog 9 #[.agg #[.int .i64 0, .int .i64 0, .int .i64 0, .int .i64 0], .agg #[.int .i64 0, .int .i64 0, .int .i64 0, .int .i64 1]] w fun e w' => e = .returned (.tuple #[.agg #[.int .i64 0, .int .i64 0, .int .i64 0, .int .i64 0], .iface 83 (.pointer (some (s 3)))]) ∧ Below w.heap.size w w' := by
  have h := sub_c s ⟨0, 0, 0, 0⟩ ⟨0, 0, 0, 1⟩ w hs
  have e1 : subR ⟨0, 0, 0, 0⟩ ⟨0, 0, 0, 1⟩ = (⟨0, 0, 0, 0⟩, 4) := by rfl
  rw [e1] at h
  exact h

/-- A fresh slice of vectors reads as its list. -/
theorem VRow.two {w : World} {g : Nat} (hg : g = w.heap.size) (x y : V4) :
    VRow (w.alloc (.cells #[.int .i64 x.a, .int .i64 x.b, .int .i64 x.c, .int .i64 x.d, .int .i64 y.a, .int .i64 y.b, .int .i64 y.c, .int .i64 y.d] 23)) (w.alloc (.cells #[.int .i64 x.a, .int .i64 x.b, .int .i64 x.c, .int .i64 x.d, .int .i64 y.a, .int .i64 y.b, .int .i64 y.c, .int .i64 y.d] 23)).heap.size (some ⟨g, 0, none⟩) [x, y] := fun _ => by
  subst hg
  refine ⟨_, rfl, by simp, fun i z hz => ?_⟩
  match i, hz with
  | 0, hz => obtain rfl := Option.some.inj hz; simp [Addr.add]
  | 1, hz => obtain rfl := Option.some.inj hz; simp [Addr.add]
theorem VRow.three {w : World} {g : Nat} (hg : g = w.heap.size) (x y z : V4) :
    VRow (w.alloc (.cells #[.int .i64 x.a, .int .i64 x.b, .int .i64 x.c, .int .i64 x.d, .int .i64 y.a, .int .i64 y.b, .int .i64 y.c, .int .i64 y.d, .int .i64 z.a, .int .i64 z.b, .int .i64 z.c, .int .i64 z.d] 23)) (w.alloc (.cells #[.int .i64 x.a, .int .i64 x.b, .int .i64 x.c, .int .i64 x.d, .int .i64 y.a, .int .i64 y.b, .int .i64 y.c, .int .i64 y.d, .int .i64 z.a, .int .i64 z.b, .int .i64 z.c, .int .i64 z.d] 23)).heap.size (some ⟨g, 0, none⟩) [x, y, z] := fun _ => by
  subst hg
  refine ⟨_, rfl, by simp, fun i z hz => ?_⟩
  match i, hz with
  | 0, hz => obtain rfl := Option.some.inj hz; simp [Addr.add]
  | 1, hz => obtain rfl := Option.some.inj hz; simp [Addr.add]
  | 2, hz => obtain rfl := Option.some.inj hz; simp [Addr.add]

theorem sum_two (s : Nat → Addr) (g : Nat) (x y : V4) (w : World) (hs : Sent s w) (hg : g = w.heap.size) :
    Calls Tryd.prog 22 #[.slice (some ⟨g, 0, none⟩) 2 2] (w.alloc (.cells #[.int .i64 x.a, .int .i64 x.b, .int .i64 x.c, .int .i64 x.d, .int .i64 y.a, .int .i64 y.b, .int .i64 y.c, .int .i64 y.d] 23)) (SumPost s (sumR [x, y]) (w.alloc (.cells #[.int .i64 x.a, .int .i64 x.b, .int .i64 x.c, .int .i64 x.d, .int .i64 y.a, .int .i64 y.b, .int .i64 y.c, .int .i64 y.d] 23))) :=
  sum_any s _ 2 [x, y] _ (hs.below ((Below.refl _ _).alloc (Nat.le_refl _) _) (Nat.le_refl _)) (VRow.two hg x y) (by simp)
theorem sum_three (s : Nat → Addr) (g : Nat) (x y z : V4) (w : World) (hs : Sent s w) (hg : g = w.heap.size) :
    Calls Tryd.prog 22 #[.slice (some ⟨g, 0, none⟩) 3 3] (w.alloc (.cells #[.int .i64 x.a, .int .i64 x.b, .int .i64 x.c, .int .i64 x.d, .int .i64 y.a, .int .i64 y.b, .int .i64 y.c, .int .i64 y.d, .int .i64 z.a, .int .i64 z.b, .int .i64 z.c, .int .i64 z.d] 23)) (SumPost s (sumR [x, y, z]) (w.alloc (.cells #[.int .i64 x.a, .int .i64 x.b, .int .i64 x.c, .int .i64 x.d, .int .i64 y.a, .int .i64 y.b, .int .i64 y.c, .int .i64 y.d, .int .i64 z.a, .int .i64 z.b, .int .i64 z.c, .int .i64 z.d] 23))) :=
  sum_any s _ 3 [x, y, z] _ (hs.below ((Below.refl _ _).alloc (Nat.le_refl _) _) (Nat.le_refl _)) (VRow.three hg x y z) (by simp)

set_option maxRecDepth 100000 in
set_option maxHeartbeats 1600000 in
theorem awake_c (s : Nat → Addr) (w : World) (hs : Sent s w) :
    Calls Tryd.prog 7 #[] w fun e w' => e = .returned (.bool true) ∧ Below w.heap.size w w' := by
  have hE := eqV
  go_enter Tryd.func7, Tryd.ntmps7
  go_wp2_with fail
  refine (aw_add s _ (hs.below (B := w.heap.size) (by (repeat' (first | (with_reducible exact Below.refl _ _) | (with_reducible refine below_drewN ?_ _) | (with_reducible refine Below.drew ?_) | (with_reducible refine Below.alloc ?_ ?_ _) | (with_reducible refine Below.setCell ?_ ?_ _) | (with_reducible refine Below.trans ?_ (Below.mono (by with_reducible assumption) ?_)) | omega | (simp only [World.size_alloc, World.size_setCell, World.size_drew, Go.Proofs.YthhjdebpbkkpbaaDoor.World.size_drewN] at *; omega) | (with_reducible refine Below.size (B := 0) ?_)))) (Nat.le_refl _))).mono ?_
  rintro e w1 ⟨rfl, hb1⟩
  go_wp2_with fail
  refine (aw_sub s _ (hs.below (B := w.heap.size) (by (repeat' (first | (with_reducible exact Below.refl _ _) | (with_reducible refine below_drewN ?_ _) | (with_reducible refine Below.drew ?_) | (with_reducible refine Below.alloc ?_ ?_ _) | (with_reducible refine Below.setCell ?_ ?_ _) | (with_reducible refine Below.trans ?_ (Below.mono (by with_reducible assumption) ?_)) | omega | (simp only [World.size_alloc, World.size_setCell, World.size_drew, Go.Proofs.YthhjdebpbkkpbaaDoor.World.size_drewN] at *; omega) | (with_reducible refine Below.size (B := 0) ?_)))) (Nat.le_refl _))).mono ?_
  rintro e w2 ⟨rfl, hb2⟩
  go_wp2_with fail
  refine (sum_two s _ ⟨1, 0, 0, 0⟩ ⟨-1, 0, 0, 0⟩ _ (hs.below (B := w.heap.size) (by (repeat' (first | (with_reducible exact Below.refl _ _) | (with_reducible refine below_drewN ?_ _) | (with_reducible refine Below.drew ?_) | (with_reducible refine Below.alloc ?_ ?_ _) | (with_reducible refine Below.setCell ?_ ?_ _) | (with_reducible refine Below.trans ?_ (Below.mono (by with_reducible assumption) ?_)) | omega | (simp only [World.size_alloc] at *; omega) | (with_reducible refine Below.size (B := 0) ?_)))) (Nat.le_refl _)) (by simp)).mono ?_
  rintro e w3 ⟨hb3, h0 | ⟨_, _, _, b, rfl, hbl, g0, g1, g2⟩⟩
  · exact absurd h0.1 (by decide)
  have g3 : w3.cell? ⟨b, 2, none⟩ = some (.iface 83 (.pointer (some (s 0)))) := g2
  clear g2
  have g4 : w3.cell? ⟨b, 1, none⟩ = some (.int .i64 1) := g1
  clear g1
  have hbl3 : b < w3.heap.size := lt_of_cell g4
  have v1 : Vb (w1.alloc (.cells #[.int .i64 2, .int .i64 3, .int .i64 4, .int .i64 5] 23)) w1.heap.size ⟨2, 3, 4, 5⟩ := Vb.new w1 ⟨2, 3, 4, 5⟩
  have v2 : Vb w2 w1.heap.size ⟨2, 3, 4, 5⟩ := v1.below hb2 (by simp)
  have hw12 : w1.heap.size < w2.heap.size := lt_of_row v2
  have k23 : Hid (Below w2.heap.size w2 w3) := Lib.hid (by (repeat' (first | (with_reducible exact Below.refl _ _) | (with_reducible refine below_drewN ?_ _) | (with_reducible refine Below.drew ?_) | (with_reducible refine Below.alloc ?_ ?_ _) | (with_reducible refine Below.setCell ?_ ?_ _) | (with_reducible refine Below.trans ?_ (Below.mono (by with_reducible assumption) ?_)) | omega | (simp only [World.size_alloc] at *; omega) | (with_reducible refine Below.size (B := 0) ?_))))
  have v3 : Vb w3 w1.heap.size ⟨2, 3, 4, 5⟩ := v2.below k23.out hw12
  obtain ⟨c0, c1, c2, c3, cf, cl⟩ := v3.facts
  clear v1 v2 v3
  go_wp2_with fail
  refine (kind_any s 4 (.iface 83 (.pointer (some (s 3)))) _ (hs.below (B := w.heap.size) (by (repeat' (first | (with_reducible exact Below.refl _ _) | (with_reducible refine below_drewN ?_ _) | (with_reducible refine Below.drew ?_) | (with_reducible refine Below.alloc ?_ ?_ _) | (with_reducible refine Below.setCell ?_ ?_ _) | (with_reducible refine Below.trans ?_ (Below.mono (by with_reducible assumption) ?_)) | omega | (simp only [World.size_alloc] at *; omega) | (with_reducible refine Below.size (B := 0) ?_)))) (Nat.le_refl _)) (.inr ⟨by omega, by omega, .inl rfl⟩)).mono ?_
  rintro e w4 ⟨rfl, hb4⟩
  have k4 : Hid (Below w3.heap.size w3 w4) := Lib.hid (by (repeat' (first | (with_reducible exact Below.refl _ _) | (with_reducible refine below_drewN ?_ _) | (with_reducible refine Below.drew ?_) | (with_reducible refine Below.alloc ?_ ?_ _) | (with_reducible refine Below.setCell ?_ ?_ _) | (with_reducible refine Below.trans ?_ (Below.mono (by with_reducible assumption) ?_)) | omega | (simp only [World.size_alloc] at *; omega) | (with_reducible refine Below.size (B := 0) ?_))))
  have x4 : w4.cell? ⟨w3.heap.size + 1, 0, none⟩ = some (.pointer none) := (hb4.cell (p := ⟨w3.heap.size + 1, 0, none⟩) (by simp)).trans (by simp)
  have y4 : w4.frozen? ⟨w3.heap.size + 1, 0, none⟩ = false := (hb4.frozen (p := ⟨w3.heap.size + 1, 0, none⟩) (by simp)).trans (by simp)
  have hl4 : w3.heap.size + 1 < w4.heap.size := lt_of_cell x4
  clear c0 c1 c2 c3 cf cl
  go_wp2_with fail
  refine (kind_any s 1 (.iface 41 (.pointer (some ⟨b, 0, none⟩))) _ (hs.below (B := w.heap.size) (by (repeat' (first | (with_reducible exact Below.refl _ _) | (with_reducible refine below_drewN ?_ _) | (with_reducible refine Below.drew ?_) | (with_reducible refine Below.alloc ?_ ?_ _) | (with_reducible refine Below.setCell ?_ ?_ _) | (with_reducible refine Below.trans ?_ (Below.mono (by with_reducible assumption) ?_)) | omega | (simp only [World.size_alloc] at *; omega) | (with_reducible refine Below.size (B := 0) ?_)))) (Nat.le_refl _)) (.inr ⟨by omega, by omega, .inr ⟨b, 0, rfl, (k4.out.cell (p := ⟨b, 2, none⟩) hbl3).trans g3⟩⟩)).mono ?_
  rintro e w5 ⟨rfl, hb5⟩
  have k5 : Hid (Below w3.heap.size w3 w5) := Lib.hid (by (repeat' (first | (with_reducible exact Below.refl _ _) | (with_reducible refine below_drewN ?_ _) | (with_reducible refine Below.drew ?_) | (with_reducible refine Below.alloc ?_ ?_ _) | (with_reducible refine Below.setCell ?_ ?_ _) | (with_reducible refine Below.trans ?_ (Below.mono (by with_reducible assumption) ?_)) | omega | (simp only [World.size_alloc] at *; omega) | (with_reducible refine Below.size (B := 0) ?_))))
  have k45 : Hid (Below w4.heap.size w4 w5) := Lib.hid (by (repeat' (first | (with_reducible exact Below.refl _ _) | (with_reducible refine below_drewN ?_ _) | (with_reducible refine Below.drew ?_) | (with_reducible refine Below.alloc ?_ ?_ _) | (with_reducible refine Below.setCell ?_ ?_ _) | (with_reducible refine Below.trans ?_ (Below.mono (by with_reducible assumption) ?_)) | omega | (simp only [World.size_alloc, World.size_setCell, World.size_drew, Go.Proofs.YthhjdebpbkkpbaaDoor.World.size_drewN] at *; omega) | (with_reducible refine Below.size (B := 0) ?_))))
  have x5 : w5.cell? ⟨w3.heap.size + 1, 0, none⟩ = some (.pointer none) := (k45.out.cell (p := ⟨w3.heap.size + 1, 0, none⟩) hl4).trans x4
  have y5 : w5.frozen? ⟨w3.heap.size + 1, 0, none⟩ = false := (k45.out.frozen (p := ⟨w3.heap.size + 1, 0, none⟩) hl4).trans y4
  have hl5 : w3.heap.size + 1 < w5.heap.size := lt_of_cell x5
  have hs5 : Sent s w5 := hs.below (B := w.heap.size) (by (repeat' (first | (with_reducible exact Below.refl _ _) | (with_reducible refine below_drewN ?_ _) | (with_reducible refine Below.drew ?_) | (with_reducible refine Below.alloc ?_ ?_ _) | (with_reducible refine Below.setCell ?_ ?_ _) | (with_reducible refine Below.trans ?_ (Below.mono (by with_reducible assumption) ?_)) | omega | (simp only [World.size_alloc] at *; omega) | (with_reducible refine Below.size (B := 0) ?_)))) (Nat.le_refl _)
  clear x4 y4
  go_wp2_with fail
  refine (as_fault ⟨b, 0, none⟩ ⟨w3.heap.size + 1, 0, none⟩ (.pointer none) _ hs5.etype x5 y5).mono ?_
  rintro e w7 ⟨rfl, w6, hb6, rfl⟩
  have k6 : Hid (Below w3.heap.size w3 w6) := Lib.hid (by (repeat' (first | (with_reducible exact Below.refl _ _) | (with_reducible refine below_drewN ?_ _) | (with_reducible refine Below.drew ?_) | (with_reducible refine Below.alloc ?_ ?_ _) | (with_reducible refine Below.setCell ?_ ?_ _) | (with_reducible refine Below.trans ?_ (Below.mono (by with_reducible assumption) ?_)) | omega | (simp only [World.size_alloc] at *; omega) | (with_reducible refine Below.size (B := 0) ?_))))
  have x6 : w6.cell? ⟨w3.heap.size + 1, 0, none⟩ = some (.pointer none) := (hb6.cell (p := ⟨w3.heap.size + 1, 0, none⟩) hl5).trans x5
  have p0 : w6.cell? ⟨b, 0, none⟩ = some (.string ⟨#[115, 117, 109]⟩) := (k6.out.cell (p := ⟨b, 0, none⟩) hbl3).trans g0
  have p1 : w6.cell? ⟨b, 1, none⟩ = some (.int .i64 1) := (k6.out.cell (p := ⟨b, 1, none⟩) hbl3).trans g4
  have hne : ¬ (w3.heap.size + 1 = b) := by omega
  have hne' : ¬ (b = w3.heap.size + 1) := by omega
  clear x5 y5 g0 g3 g4
  go_wp2_with fail
  refine (fits_c ⟨1, 0, 0, 0⟩ ⟨1, 1, 0, 0⟩ _).mono ?_
  rintro e w8 ⟨rfl, hb8⟩
  rw [show fitsV ⟨1, 0, 0, 0⟩ ⟨1, 1, 0, 0⟩ = true from rfl]
  go_wp2_with fail
  refine (less_c ⟨1, 0, 0, 0⟩ ⟨1, 1, 0, 0⟩ _).mono ?_
  rintro e w9 ⟨rfl, hb9⟩
  rw [show lessV ⟨1, 0, 0, 0⟩ ⟨1, 1, 0, 0⟩ = true from rfl]
  go_wp2_with fail
  refine (none_c ⟨0, 0, 0, 0⟩ _).mono ?_
  rintro e w10 ⟨rfl, hb10⟩
  rw [show noneV ⟨0, 0, 0, 0⟩ = true from rfl]
  go_wp2_with fail
  have hw3 : w.heap.size ≤ w3.heap.size := by (repeat' (first | (with_reducible exact Below.refl _ _) | (with_reducible refine below_drewN ?_ _) | (with_reducible refine Below.drew ?_) | (with_reducible refine Below.alloc ?_ ?_ _) | (with_reducible refine Below.setCell ?_ ?_ _) | (with_reducible refine Below.trans ?_ (Below.mono (by with_reducible assumption) ?_)) | omega | (simp only [World.size_alloc, World.size_setCell] at *; omega) | (with_reducible refine Below.size (B := 0) ?_)))
  go_ret
  exact ⟨rfl, by (repeat' (first | (with_reducible exact Below.refl _ _) | (with_reducible refine below_drewN ?_ _) | (with_reducible refine Below.drew ?_) | (with_reducible refine Below.alloc ?_ ?_ _) | (with_reducible refine Below.setCell ?_ ?_ _) | (with_reducible refine Below.trans ?_ (Below.mono (by with_reducible assumption) ?_)) | omega | (simp only [World.size_alloc, World.size_setCell] at *; omega) | (with_reducible refine Below.size (B := 0) ?_)))⟩
end Go.Proofs.YthhjdebpbkkpbaaDoor
