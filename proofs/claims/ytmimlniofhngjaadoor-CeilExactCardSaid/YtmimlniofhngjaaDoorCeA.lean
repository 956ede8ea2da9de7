/- The contract of awake: the examples of the document stand. Condition: the package variables lie as the program's text lays them. -/
import Derived.Test.YtmimlniofhngjaaDoorCeE
import Derived.Test.YtmimlniofhngjaaDoorKd
import Derived.Test.YtmimlniofhngjaaDoorAs
namespace Go.Proofs.YtmimlniofhngjaaDoor
open Go Go.RowKit

theorem aw_may1 (s : Nat → Addr) (w : World) (hs : Sent s w) :
    Calls Tryd.prog 7 #[.agg #[.int .i64 28, .int .i64 0, .int .i64 0, .int .i64 0], .agg #[.int .i64 2, .int .i64 0, .int .i64 0, .int .i64 0], .agg #[.int .i64 10, .int .i64 10, .int .i64 10, .int .i64 10], .int .i64 3] w fun e w' => e = .returned .nilIface ∧ Below w.heap.size w w' :=
  (may_c s ⟨28, 0, 0, 0⟩ ⟨2, 0, 0, 0⟩ ⟨10, 10, 10, 10⟩ 3 w hs).mono fun e w' ⟨⟨ev, he, hv⟩, hb⟩ => by
    rw [show mayR ⟨28, 0, 0, 0⟩ ⟨2, 0, 0, 0⟩ ⟨10, 10, 10, 10⟩ 3 = (0, 0) by decide] at hv
    rcases hv with hv | hv
    · exact absurd hv.1 (by decide)
    · exact ⟨by rw [he, hv.2]; rfl, hb⟩
theorem aw_may2 (s : Nat → Addr) (w : World) (hs : Sent s w) :
    Calls Tryd.prog 7 #[.agg #[.int .i64 0, .int .i64 28, .int .i64 0, .int .i64 0], .agg #[.int .i64 0, .int .i64 3, .int .i64 0, .int .i64 0], .agg #[.int .i64 10, .int .i64 10, .int .i64 10, .int .i64 10], .int .i64 3] w fun e w' => (∃ g, e = .returned (.iface 31 (.pointer (some ⟨g, 0, none⟩))) ∧ w'.heap[g]? = some (.cells (ceilRow s 1) 35 (0, 0))) ∧ Below w.heap.size w w' :=
  (may_c s ⟨0, 28, 0, 0⟩ ⟨0, 3, 0, 0⟩ ⟨10, 10, 10, 10⟩ 3 w hs).mono fun e w' ⟨⟨ev, he, hv⟩, hb⟩ => by
    rw [show mayR ⟨0, 28, 0, 0⟩ ⟨0, 3, 0, 0⟩ ⟨10, 10, 10, 10⟩ 3 = (9, 1) by decide] at hv
    rcases hv with ⟨_, g, h1, h2⟩ | hv
    · exact ⟨⟨g, by rw [he, h1], h2⟩, hb⟩
    · exact absurd rfl hv.1
theorem aw_top (s : Nat → Addr) (w : World) (hs : Sent s w) :
    Calls Tryd.prog 11 #[.agg #[.int .i64 10, .int .i64 10, .int .i64 10, .int .i64 10], .int .i64 3] w fun e w' => e = .returned (.tuple #[.agg #[.int .i64 30, .int .i64 30, .int .i64 30, .int .i64 30], .nilIface]) ∧ Below w.heap.size w w' :=
  (top_c s ⟨10, 10, 10, 10⟩ 3 w hs).mono fun e w' ⟨he, hb⟩ => by
    rw [show topR ⟨10, 10, 10, 10⟩ 3 = (⟨30, 30, 30, 30⟩, 0) by decide] at he
    exact ⟨he, hb⟩

set_option maxRecDepth 100000 in
set_option maxHeartbeats 1600000 in
theorem awake_c (s : Nat → Addr) (w : World) (hs : Sent s w) (ht : ETy w) :
    Calls Tryd.prog 6 #[] w fun e w' => e = .returned (.bool true) ∧ Below w.heap.size w w' := by
  have hE := eqV
  go_enter Tryd.func6, Tryd.ntmps6
  go_wp2_with fail
  refine (aw_may1 s _ (hs.below (B := w.heap.size) (by (repeat' (first | (with_reducible exact Below.refl _ _) | (with_reducible refine below_drewN ?_ _) | (with_reducible refine Below.drew ?_) | (with_reducible refine Below.alloc ?_ ?_ _) | (with_reducible refine Below.setCell ?_ ?_ _) | (with_reducible refine Below.trans ?_ (Below.mono (by with_reducible assumption) ?_)) | omega | (simp only [World.size_alloc, World.size_setCell, World.size_drew, Go.Proofs.YtmimlniofhngjaaDoor.World.size_drewN] at *; omega) | (with_reducible refine Below.size (B := 0) ?_)))) (Nat.le_refl _))).mono ?_
  rintro e w1 ⟨rfl, hb1⟩
  have Vc : Vb w1 w.heap.size ⟨10, 10, 10, 10⟩ := Vb.fresh ⟨10, 10, 10, 10⟩ hb1
  obtain ⟨a0, a1, a2, a3, af, al⟩ := Vc.facts
  go_wp2_with fail
  refine (aw_may2 s _ (hs.below (B := w.heap.size) (by (repeat' (first | (with_reducible exact Below.refl _ _) | (with_reducible refine below_drewN ?_ _) | (with_reducible refine Below.drew ?_) | (with_reducible refine Below.alloc ?_ ?_ _) | (with_reducible refine Below.setCell ?_ ?_ _) | (with_reducible refine Below.trans ?_ (Below.mono (by with_reducible assumption) ?_)) | omega | (simp only [World.size_alloc] at *; omega) | (with_reducible refine Below.size (B := 0) ?_)))) (Nat.le_refl _))).mono ?_
  rintro e w2 ⟨⟨g, rfl, hg⟩, hb2⟩
  clear a0 a1 a2 a3 af al
  replace Vc := Vc.step0 hb2
  obtain ⟨a0, a1, a2, a3, af, al⟩ := Vc.facts
  go_wp2_with fail
  refine (aw_top s _ (hs.below (B := w.heap.size) (by (repeat' (first | (with_reducible exact Below.refl _ _) | (with_reducible refine below_drewN ?_ _) | (with_reducible refine Below.drew ?_) | (with_reducible refine Below.alloc ?_ ?_ _) | (with_reducible refine Below.setCell ?_ ?_ _) | (with_reducible refine Below.trans ?_ (Below.mono (by with_reducible assumption) ?_)) | omega | (simp only [World.size_alloc] at *; omega) | (with_reducible refine Below.size (B := 0) ?_)))) (Nat.le_refl _))).mono ?_
  rintro e w3 ⟨rfl, hb3⟩
  clear a0 a1 a2 a3 af al Vc
  have hg3 := (hb3.block g (lt_of_row hg)).trans hg
  have g2 : w3.cell? ⟨g, 2, none⟩ = some (.iface 83 (.pointer (some (s 8)))) := cell_of_heap hg3 2
  have gl := lt_of_row hg3
  have hs3 : Sent s w3 := hs.below (B := w.heap.size) (by (repeat' (first | (with_reducible exact Below.refl _ _) | (with_reducible refine below_drewN ?_ _) | (with_reducible refine Below.drew ?_) | (with_reducible refine Below.alloc ?_ ?_ _) | (with_reducible refine Below.setCell ?_ ?_ _) | (with_reducible refine Below.trans ?_ (Below.mono (by with_reducible assumption) ?_)) | omega | (simp only [World.size_alloc] at *; omega) | (with_reducible refine Below.size (B := 0) ?_)))) (Nat.le_refl _)
  have ht3 : ETy w3 := ht.below (B := w.heap.size) (by (repeat' (first | (with_reducible exact Below.refl _ _) | (with_reducible refine below_drewN ?_ _) | (with_reducible refine Below.drew ?_) | (with_reducible refine Below.alloc ?_ ?_ _) | (with_reducible refine Below.setCell ?_ ?_ _) | (with_reducible refine Below.trans ?_ (Below.mono (by with_reducible assumption) ?_)) | omega | (simp only [World.size_alloc] at *; omega) | (with_reducible refine Below.size (B := 0) ?_)))) (Nat.le_refl _)
  have B3 : Hid (Below w.heap.size w w3) := Lib.hid (by (repeat' (first | (with_reducible exact Below.refl _ _) | (with_reducible refine below_drewN ?_ _) | (with_reducible refine Below.drew ?_) | (with_reducible refine Below.alloc ?_ ?_ _) | (with_reducible refine Below.setCell ?_ ?_ _) | (with_reducible refine Below.trans ?_ (Below.mono (by with_reducible assumption) ?_)) | omega | (simp only [World.size_alloc] at *; omega) | (with_reducible refine Below.size (B := 0) ?_))))
  clear hb1 hb2 hb3 hg hs ht
  go_wp2_with fail
  refine (kind_any s 9 (.iface 31 (.pointer (some ⟨g, 0, none⟩))) _ (hs3.below (B := w3.heap.size) (by (repeat' (first | (with_reducible exact Below.refl _ _) | (with_reducible refine below_drewN ?_ _) | (with_reducible refine Below.drew ?_) | (with_reducible refine Below.alloc ?_ ?_ _) | (with_reducible refine Below.setCell ?_ ?_ _) | (with_reducible refine Below.trans ?_ (Below.mono (by with_reducible assumption) ?_)) | omega | (simp only [World.size_alloc] at *; omega) | (with_reducible refine Below.size (B := 0) ?_)))) (Nat.le_refl _)) (.inr ⟨by omega, by omega, .inr ⟨g, 0, rfl, by rw [World.cell?_alloc_lt _ _ ⟨g, 0 + 2, none⟩ (by simp; omega), World.cell?_alloc_lt _ _ ⟨g, 0 + 2, none⟩ gl]; exact g2⟩⟩)).mono ?_
  rintro e w4 ⟨rfl, hb4⟩
  have k4 : Hid (Below w3.heap.size w3 w4) := Lib.hid (by (repeat' (first | (with_reducible exact Below.refl _ _) | (with_reducible refine below_drewN ?_ _) | (with_reducible refine Below.drew ?_) | (with_reducible refine Below.alloc ?_ ?_ _) | (with_reducible refine Below.setCell ?_ ?_ _) | (with_reducible refine Below.trans ?_ (Below.mono (by with_reducible assumption) ?_)) | omega | (simp only [World.size_alloc] at *; omega) | (with_reducible refine Below.size (B := 0) ?_))))
  have x4 : w4.cell? ⟨w3.heap.size + 1, 0, none⟩ = some (.pointer none) := (hb4.cell (p := ⟨w3.heap.size + 1, 0, none⟩) (by simp)).trans (by simp)
  have y4 : w4.frozen? ⟨w3.heap.size + 1, 0, none⟩ = false := (hb4.frozen (p := ⟨w3.heap.size + 1, 0, none⟩) (by simp)).trans (by simp)
  have Vt : Vb w4 w3.heap.size ⟨30, 30, 30, 30⟩ := ((Vb.new w3 ⟨30, 30, 30, 30⟩).alloc _).step0 hb4
  have hl4 : w3.heap.size + 1 < w4.heap.size := lt_of_cell x4
  have ht4 : ETy w4 := ht3.below (B := w3.heap.size) k4.out (Nat.le_refl _)
  clear hb4
  go_wp2_with fail
  refine (as_fault ⟨g, 0, none⟩ ⟨w3.heap.size + 1, 0, none⟩ (.pointer none) _ ht4 x4 y4).mono ?_
  rintro e w7 ⟨rfl, w6, hb6, rfl⟩
  have x6 : w6.cell? ⟨w3.heap.size + 1, 0, none⟩ = some (.pointer none) := (hb6.cell (p := ⟨w3.heap.size + 1, 0, none⟩) hl4).trans x4
  have hg6 := ((hb6.block g (by omega)).trans (k4.out.block g gl)).trans hg3
  have p0 : w6.cell? ⟨g, 0, none⟩ = some (.string ⟨#[99, 101, 105, 108]⟩) := cell_of_heap hg6 0
  have p1 : w6.cell? ⟨g, 1, none⟩ = some (.int .i64 1) := cell_of_heap hg6 1
  have hne : ¬ (w3.heap.size + 1 = g) := by omega
  have hne' : ¬ (g = w3.heap.size + 1) := by omega
  replace Vt := Vt.step0 hb6
  obtain ⟨a0, a1, a2, a3, af, al⟩ := Vt.facts
  have K6 : Hid (Below w3.heap.size w3 w6) := Lib.hid (k4.out.trans (hb6.mono (by omega)))
  clear x4 y4 hg6 Vt hb6 g2 hg3 k4
  go_wp2_with fail
  go_ret
  exact ⟨rfl, by have h1 := K6.out; have h2 := B3.out; exact h2.trans ((h1.setCell (by simp) _).mono (by have := h2.size; omega))⟩
end Go.Proofs.YtmimlniofhngjaaDoor
