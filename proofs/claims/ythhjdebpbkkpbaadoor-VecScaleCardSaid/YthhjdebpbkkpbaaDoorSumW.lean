/- The walk of the law VecSum: whatever the list of vectors, it returns true. Condition: the package variables lie as the program's text lays them. -/
import Derived.Test.YthhjdebpbkkpbaaDoorAwake
import Derived.Test.YthhjdebpbkkpbaaDoorRefSum
import Derived.Test.YthhjdebpbkkpbaaDoorExact
namespace Go.Proofs.YthhjdebpbkkpbaaDoor
open Go Go.RowKit

theorem VRow.mono {w : World} {B B' : Nat} {A : Option Addr} {zs : List V4} (h : VRow w B A zs) (hB : B ≤ B') : VRow w B' A zs := fun hn => by
  obtain ⟨ad, e, hl, hc⟩ := h hn
  exact ⟨ad, e, Nat.lt_of_lt_of_le hl hB, hc⟩
theorem VRow.at_ {w w' : World} {A : Option Addr} {zs : List V4} (h : VRow w w.heap.size A zs) (hb : Below w.heap.size w w') : VRow w' w'.heap.size A zs := (h.below hb).mono hb.size

set_option maxRecDepth 100000 in
set_option maxHeartbeats 1600000 in
theorem sum_long (s : Nat → Addr) (A : Option Addr) (n c : Nat) (w : World) (hs : Sent s w) (hl : n ≤ 9223372036854775807) (h30 : 30 < n) :
    Calls Tryd.prog 4 #[.slice A n c] w fun e w' => e = .returned (.bool true) ∧ Below w.heap.size w w' := by
  go_enter Tryd.func4, Tryd.ntmps4
  go_wp2_with fail
  refine (awake_c s _ hs).mono ?_
  rintro e w1 ⟨rfl, hb1⟩
  go_wp2_with fail
  go_ret
  exact ⟨rfl, by (repeat' (first | (with_reducible exact Below.refl _ _) | (with_reducible refine below_drewN ?_ _) | (with_reducible refine Below.drew ?_) | (with_reducible refine Below.alloc ?_ ?_ _) | (with_reducible refine Below.setCell ?_ ?_ _) | (with_reducible refine Below.trans ?_ (Below.mono (by with_reducible assumption) ?_)) | omega | (simp only [World.size_alloc, World.size_setCell, World.size_drew, Go.Proofs.YthhjdebpbkkpbaaDoor.World.size_drewN] at *; omega) | (with_reducible refine Below.size (B := 0) ?_)))⟩

set_option maxRecDepth 100000 in
set_option maxHeartbeats 1600000 in
theorem sum_fine (s : Nat → Addr) (A : Option Addr) (c : Nat) (zs : List V4) (w : World) (hs : Sent s w) (hr : VRow w w.heap.size A zs) (h30 : zs.length ≤ 30) (T : V4) (hR : sumR zs = (T, 0, 0)) :
    Calls Tryd.prog 4 #[.slice A zs.length c] w fun e w' => e = .returned (.bool true) ∧ Below w.heap.size w w' := by
  have hE := eqV
  have HR := Lib.hid hR; clear hR
  go_enter Tryd.func4, Tryd.ntmps4
  go_wp2_with fail
  refine (awake_c s _ hs).mono ?_
  rintro e w1 ⟨rfl, hb1⟩
  go_wp2_with fail
  refine (sum_any s A c zs _ (hs.below (B := w.heap.size) (by (repeat' (first | (with_reducible exact Below.refl _ _) | (with_reducible refine below_drewN ?_ _) | (with_reducible refine Below.drew ?_) | (with_reducible refine Below.alloc ?_ ?_ _) | (with_reducible refine Below.setCell ?_ ?_ _) | (with_reducible refine Below.trans ?_ (Below.mono (by with_reducible assumption) ?_)) | omega | (simp only [World.size_alloc, World.size_setCell, World.size_drew, Go.Proofs.YthhjdebpbkkpbaaDoor.World.size_drewN] at *; omega) | (with_reducible refine Below.size (B := 0) ?_)))) (Nat.le_refl _)) (hr.at_ (by (repeat' (first | (with_reducible exact Below.refl _ _) | (with_reducible refine below_drewN ?_ _) | (with_reducible refine Below.drew ?_) | (with_reducible refine Below.alloc ?_ ?_ _) | (with_reducible refine Below.setCell ?_ ?_ _) | (with_reducible refine Below.trans ?_ (Below.mono (by with_reducible assumption) ?_)) | omega | (simp only [World.size_alloc, World.size_setCell, World.size_drew, Go.Proofs.YthhjdebpbkkpbaaDoor.World.size_drewN] at *; omega) | (with_reducible refine Below.size (B := 0) ?_))))) (by omega)).mono ?_
  rintro e w2 ⟨hb2, h0⟩
  rw [HR.out] at h0
  rcases h0 with ⟨_, rfl⟩ | ⟨hk, _⟩
  rotate_left
  · cases hk
  go_wp2_with fail
  refine (rsum_any A c zs _ (hr.at_ (by (repeat' (first | (with_reducible exact Below.refl _ _) | (with_reducible refine below_drewN ?_ _) | (with_reducible refine Below.drew ?_) | (with_reducible refine Below.alloc ?_ ?_ _) | (with_reducible refine Below.setCell ?_ ?_ _) | (with_reducible refine Below.trans ?_ (Below.mono (by with_reducible assumption) ?_)) | omega | (simp only [World.size_alloc, World.size_setCell, World.size_drew, Go.Proofs.YthhjdebpbkkpbaaDoor.World.size_drewN] at *; omega) | (with_reducible refine Below.size (B := 0) ?_))))) (by omega)).mono ?_
  rintro e w3 ⟨hb3, h0⟩
  rw [HR.out] at h0
  subst h0
  have Vx := Vb.fresh T hb3
  obtain ⟨x0, x1, x2, x3, xf, xl⟩ := Vx.facts
  go_wp2_with fail
  refine (kind_nil _).mono ?_
  rintro e w4 ⟨rfl, hb4⟩
  go_wp2_with fail
  go_ret
  exact ⟨rfl, by (repeat' (first | (with_reducible exact Below.refl _ _) | (with_reducible refine below_drewN ?_ _) | (with_reducible refine Below.drew ?_) | (with_reducible refine Below.alloc ?_ ?_ _) | (with_reducible refine Below.setCell ?_ ?_ _) | (with_reducible refine Below.trans ?_ (Below.mono (by with_reducible assumption) ?_)) | omega | (simp only [World.size_alloc] at *; omega) | (with_reducible refine Below.size (B := 0) ?_)))⟩

set_option maxRecDepth 100000 in
set_option maxHeartbeats 3200000 in
theorem sum_fault (s : Nat → Addr) (A : Option Addr) (c : Nat) (zs : List V4) (w : World) (hs : Sent s w) (hr : VRow w w.heap.size A zs) (h30 : zs.length ≤ 30) (K at_ : Nat) (hK : 0 < K) (hR : sumR zs = (⟨0, 0, 0, 0⟩, K, at_)) :
    Calls Tryd.prog 4 #[.slice A zs.length c] w fun e w' => e = .returned (.bool true) ∧ Below w.heap.size w w' := by
  have hE := eqV
  have HR := Lib.hid hR; clear hR
  have hK0 : ((K : Int) == 0) = false := by rw [beq_eq_false_iff_ne]; omega
  go_enter Tryd.func4, Tryd.ntmps4
  go_wp2_with fail
  refine (awake_c s _ hs).mono ?_
  rintro e w1 ⟨rfl, hb1⟩
  go_wp2_with fail
  refine (sum_any s A c zs _ (hs.below (B := w.heap.size) (by (repeat' (first | (with_reducible exact Below.refl _ _) | (with_reducible refine below_drewN ?_ _) | (with_reducible refine Below.drew ?_) | (with_reducible refine Below.alloc ?_ ?_ _) | (with_reducible refine Below.setCell ?_ ?_ _) | (with_reducible refine Below.trans ?_ (Below.mono (by with_reducible assumption) ?_)) | omega | (simp only [World.size_alloc, World.size_setCell, World.size_drew, Go.Proofs.YthhjdebpbkkpbaaDoor.World.size_drewN] at *; omega) | (with_reducible refine Below.size (B := 0) ?_)))) (Nat.le_refl _)) (hr.at_ (by (repeat' (first | (with_reducible exact Below.refl _ _) | (with_reducible refine below_drewN ?_ _) | (with_reducible refine Below.drew ?_) | (with_reducible refine Below.alloc ?_ ?_ _) | (with_reducible refine Below.setCell ?_ ?_ _) | (with_reducible refine Below.trans ?_ (Below.mono (by with_reducible assumption) ?_)) | omega | (simp only [World.size_alloc, World.size_setCell, World.size_drew, Go.Proofs.YthhjdebpbkkpbaaDoor.World.size_drewN] at *; omega) | (with_reducible refine Below.size (B := 0) ?_))))) (by omega)).mono ?_
  rintro e w2 ⟨hb2, h0⟩
  rw [HR.out] at h0
  rcases h0 with ⟨hk, _⟩ | ⟨_, h14, _, b, rfl, hbl, g0, g1, g2⟩
  · exact absurd hk (by simp only; omega)
  have h14' : K ≤ 14 := h14
  have hbl2 : b < w2.heap.size := lt_of_cell g0
  have G0 := Lib.hid g0; clear g0
  have G1 := Lib.hid g1; clear g1
  have G2 := Lib.hid g2; clear g2
  clear h14 hbl
  go_wp2_with fail
  refine (rsum_any A c zs _ (hr.at_ (by (repeat' (first | (with_reducible exact Below.refl _ _) | (with_reducible refine below_drewN ?_ _) | (with_reducible refine Below.drew ?_) | (with_reducible refine Below.alloc ?_ ?_ _) | (with_reducible refine Below.setCell ?_ ?_ _) | (with_reducible refine Below.trans ?_ (Below.mono (by with_reducible assumption) ?_)) | omega | (simp only [World.size_alloc, World.size_setCell, World.size_drew, Go.Proofs.YthhjdebpbkkpbaaDoor.World.size_drewN] at *; omega) | (with_reducible refine Below.size (B := 0) ?_))))) (by omega)).mono ?_
  rintro e w3 ⟨hb3, h0⟩
  rw [HR.out] at h0
  subst h0
  have Vx := Vb.fresh ⟨0, 0, 0, 0⟩ hb3
  obtain ⟨x0, x1, x2, x3, xf, xl⟩ := Vx.facts
  have k3 : Hid (Below w2.heap.size w2 w3) := Lib.hid (by (repeat' (first | (with_reducible exact Below.refl _ _) | (with_reducible refine below_drewN ?_ _) | (with_reducible refine Below.drew ?_) | (with_reducible refine Below.alloc ?_ ?_ _) | (with_reducible refine Below.setCell ?_ ?_ _) | (with_reducible refine Below.trans ?_ (Below.mono (by with_reducible assumption) ?_)) | omega | (simp only [World.size_alloc] at *; omega) | (with_reducible refine Below.size (B := 0) ?_))))
  go_wp2_with fail
  refine (kind_any s K (.iface 41 (.pointer (some ⟨b, 0, none⟩))) _ (hs.below (B := w.heap.size) (by (repeat' (first | (with_reducible exact Below.refl _ _) | (with_reducible refine below_drewN ?_ _) | (with_reducible refine Below.drew ?_) | (with_reducible refine Below.alloc ?_ ?_ _) | (with_reducible refine Below.setCell ?_ ?_ _) | (with_reducible refine Below.trans ?_ (Below.mono (by with_reducible assumption) ?_)) | omega | (simp only [World.size_alloc] at *; omega) | (with_reducible refine Below.size (B := 0) ?_)))) (Nat.le_refl _)) (.inr ⟨hK, h14', .inr ⟨b, 0, rfl, ?_⟩⟩)).mono ?_
  · rw [World.cell?_alloc_lt _ _ _ (Nat.lt_of_lt_of_le hbl2 k3.out.size)]
    exact (k3.out.cell (p := ⟨b, 2, none⟩) hbl2).trans G2.out
  rintro e w4 ⟨rfl, hb4⟩
  have k4 : Hid (Below w2.heap.size w2 w4) := Lib.hid (by (repeat' (first | (with_reducible exact Below.refl _ _) | (with_reducible refine below_drewN ?_ _) | (with_reducible refine Below.drew ?_) | (with_reducible refine Below.alloc ?_ ?_ _) | (with_reducible refine Below.setCell ?_ ?_ _) | (with_reducible refine Below.trans ?_ (Below.mono (by with_reducible assumption) ?_)) | omega | (simp only [World.size_alloc] at *; omega) | (with_reducible refine Below.size (B := 0) ?_))))
  clear x0 x1 x2 x3 xf xl
  go_wp2_with fail
  have hs5 : Sent s (w4.alloc (.cells #[.pointer none] 41)) := (hs.below (B := w.heap.size) (by (repeat' (first | (with_reducible exact Below.refl _ _) | (with_reducible refine below_drewN ?_ _) | (with_reducible refine Below.drew ?_) | (with_reducible refine Below.alloc ?_ ?_ _) | (with_reducible refine Below.setCell ?_ ?_ _) | (with_reducible refine Below.trans ?_ (Below.mono (by with_reducible assumption) ?_)) | omega | (simp only [World.size_alloc] at *; omega) | (with_reducible refine Below.size (B := 0) ?_)))) (Nat.le_refl _))
  refine (as_fault ⟨b, 0, none⟩ ⟨w4.heap.size, 0, none⟩ (.pointer none) _ hs5.etype (by simp) (by simp)).mono ?_
  rintro e w7 ⟨rfl, w6, hb6, rfl⟩
  have k6 : Hid (Below w2.heap.size w2 w6) := Lib.hid (by (repeat' (first | (with_reducible exact Below.refl _ _) | (with_reducible refine below_drewN ?_ _) | (with_reducible refine Below.drew ?_) | (with_reducible refine Below.alloc ?_ ?_ _) | (with_reducible refine Below.setCell ?_ ?_ _) | (with_reducible refine Below.trans ?_ (Below.mono (by with_reducible assumption) ?_)) | omega | (simp only [World.size_alloc] at *; omega) | (with_reducible refine Below.size (B := 0) ?_))))
  have y6 : w6.cell? ⟨w4.heap.size, 0, none⟩ = some (.pointer none) := (hb6.cell (p := ⟨w4.heap.size, 0, none⟩) (by simp)).trans (by simp)
  have p0 : w6.cell? ⟨b, 0, none⟩ = some (.string ⟨#[115, 117, 109]⟩) := (k6.out.cell (p := ⟨b, 0, none⟩) hbl2).trans G0.out
  have p1 : w6.cell? ⟨b, 1, none⟩ = some (.int .i64 at_) := (k6.out.cell (p := ⟨b, 1, none⟩) hbl2).trans G1.out
  have hz4 := k4.out.size
  have hne : ¬ (w4.heap.size = b) := by omega
  have hne' : ¬ (b = w4.heap.size) := by omega
  clear hs5
  go_wp2_with fail
  have hw4 : w.heap.size ≤ w4.heap.size := by (repeat' (first | (with_reducible exact Below.refl _ _) | (with_reducible refine below_drewN ?_ _) | (with_reducible refine Below.drew ?_) | (with_reducible refine Below.alloc ?_ ?_ _) | (with_reducible refine Below.setCell ?_ ?_ _) | (with_reducible refine Below.trans ?_ (Below.mono (by with_reducible assumption) ?_)) | omega | (simp only [World.size_alloc] at *; omega) | (with_reducible refine Below.size (B := 0) ?_)))
  go_ret
  exact ⟨rfl, by (repeat' (first | (with_reducible exact Below.refl _ _) | (with_reducible refine below_drewN ?_ _) | (with_reducible refine Below.drew ?_) | (with_reducible refine Below.alloc ?_ ?_ _) | (with_reducible refine Below.setCell ?_ ?_ _) | (with_reducible refine Below.trans ?_ (Below.mono (by with_reducible assumption) ?_)) | omega | (simp only [World.size_alloc] at *; omega) | (with_reducible refine Below.size (B := 0) ?_)))⟩

theorem sumGo_form : ∀ (zs : List V4) (t : V4) (i : Nat), (∃ T, sumGo zs t i = (T, 0, 0)) ∨ ∃ K p, 0 < K ∧ sumGo zs t i = (⟨0, 0, 0, 0⟩, K, p)
  | [], t, i => .inl ⟨t, rfl⟩
  | z :: r, t, i => by
    by_cases h : (addR t z).2 = 0
    · rw [sumGo_ok h]; exact sumGo_form r _ _
    · rw [sumGo_err h]; exact .inr ⟨_, _, Nat.pos_of_ne_zero h, rfl⟩

theorem sum_walk (s : Nat → Addr) (A : Option Addr) (c : Nat) (zs : List V4) (w : World) (hs : Sent s w) (hr : VRow w w.heap.size A zs) (hl : zs.length ≤ 9223372036854775807) :
    Calls Tryd.prog 4 #[.slice A zs.length c] w fun e w' => e = .returned (.bool true) ∧ Below w.heap.size w w' := by
  by_cases h30 : 30 < zs.length
  · exact sum_long s A zs.length c w hs hl h30
  · rcases sumGo_form zs ⟨0, 0, 0, 0⟩ 0 with ⟨T, hR⟩ | ⟨K, p, hK, hR⟩
    · exact sum_fine s A c zs w hs hr (by omega) T hR
    · exact sum_fault s A c zs w hs hr (by omega) K p hK hR
end Go.Proofs.YthhjdebpbkkpbaaDoor
