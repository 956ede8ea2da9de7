/- The reference's park of stage 15 in memory: Is, Count. Conditions: the park is one that the calls have made. -/
import Derived.Test.YtaenpajmgenjhaaDoorPkM
import Derived.Test.YtaenpajmgenjhaaDoorChg
import Derived.Test.YtaenpajmgenjhaaDoorErrs
import Derived.IntWalk
import Derived.Lib.Hide
import Derived.LoopTactic
import Derived.Deep.QuietTactic
import Derived.Deep.DeepCutAuto
import Derived.Deep.CutBlock
namespace Go.Proofs.YtaenpajmgenjhaaDoor
open Go Go.RowKit

def encM (m : Mc) : List Value := [.int .i64 m.cell, .int .i64 m.has.a, .int .i64 m.has.b, .int .i64 m.has.c, .int .i64 m.has.d, .int .i64 m.st]
/-- The reference's park: six thousand cells in the block u. -/
def PkR (w : World) (u : Nat) (P : List Mc) : Prop :=
  ∃ cs, w.heap[u]? = some (.cells cs 32 (0, 0)) ∧ cs.size = 6000 ∧ ∀ (i : Nat), i < 1000 → ∀ r v, (encM (slotP P i))[r]? = some v → cs[i * 6 + r]? = some v
theorem PkR.lt {w : World} {u : Nat} {P : List Mc} (h : PkR w u P) : u < w.heap.size := by obtain ⟨cs, h1, _⟩ := h; exact lt_of_row h1
theorem PkR.on {w w' : World} {u : Nat} {P : List Mc} (h : PkR w u P) (hb : Below w.heap.size w w') : PkR w' u P := by
  obtain ⟨cs, h1, h2, h3⟩ := h
  exact ⟨cs, (hb.block u (lt_of_row h1)).trans h1, h2, h3⟩
theorem PkR.cells {w : World} {u : Nat} {P : List Mc} (h : PkR w u P) {i : Nat} (hi : i < 1000) :
    w.cell? ⟨u, i * 6, none⟩ = some (.int .i64 (slotP P i).cell) ∧ w.cell? ⟨u, i * 6 + 1, none⟩ = some (.int .i64 (slotP P i).has.a) ∧ w.cell? ⟨u, i * 6 + 2, none⟩ = some (.int .i64 (slotP P i).has.b) ∧ w.cell? ⟨u, i * 6 + 3, none⟩ = some (.int .i64 (slotP P i).has.c) ∧ w.cell? ⟨u, i * 6 + 4, none⟩ = some (.int .i64 (slotP P i).has.d) ∧ w.cell? ⟨u, i * 6 + 5, none⟩ = some (.int .i64 (slotP P i).st) ∧ u < w.heap.size ∧ ∀ j, w.frozen? ⟨u, j, none⟩ = false := by
  obtain ⟨cs, h1, h2, h3⟩ := h
  exact ⟨(cell_of_heap h1 _).trans (h3 i hi 0 _ rfl), (cell_of_heap h1 _).trans (h3 i hi 1 _ rfl), (cell_of_heap h1 _).trans (h3 i hi 2 _ rfl), (cell_of_heap h1 _).trans (h3 i hi 3 _ rfl), (cell_of_heap h1 _).trans (h3 i hi 4 _ rfl), (cell_of_heap h1 _).trans (h3 i hi 5 _ rfl), lt_of_row h1, fun j => frozen_of_heap h1 j⟩
set_option maxRecDepth 1000000 in
theorem zero_park : Tryd.zeroCells32 = Array.replicate 6000 (.int .i64 0) := by kernel_rfl
/-- The empty park. -/
theorem PkR.new (w : World) : PkR (w.alloc (.cells Tryd.zeroCells32 32)) w.heap.size [] := by
  refine ⟨_, heap_alloc_new w _, by rw [zero_park]; simp, fun i hi r v hv => ?_⟩
  rw [zero_park, Array.getElem?_replicate]
  have hs : slotP [] (i : Int) = ⟨i, 0, ⟨0, 0, 0, 0⟩, 0⟩ := rfl
  rw [hs] at hv
  unfold encM at hv
  match r, hv with
  | 0, hv | 1, hv | 2, hv | 3, hv | 4, hv | 5, hv => rw [if_pos (by omega)]; exact hv

set_option maxRecDepth 100000 in
set_option maxHeartbeats 1600000 in
theorem is_in (u : Nat) (P : List Mc) (i : Nat) (w : World) (h : PkR w u P) (hG : GP P) (h1 : 1 ≤ i) (h2 : i ≤ 999) :
    Calls Tryd.prog 16 #[.pointer (some ⟨u, 0, none⟩), .int .i64 (i : Int)] w fun e w' => e = .returned (.bool (atP P i).isSome) ∧ w' = w := by
  obtain ⟨c0, _⟩ := h.cells (i := i) (by omega)
  have hsc := slot_cell hG (i : Int)
  obtain ⟨b, hb⟩ : ∃ b, (atP P (i : Int)).isSome = b := ⟨_, rfl⟩
  rw [hb] at hsc ⊢
  have d1 : decide ((1 : Int) ≤ (i : Int)) = true := decide_eq_true (by omega)
  have d2 : decide ((i : Int) ≤ 999) = true := decide_eq_true (by omega)
  have d1n : decide (1 ≤ i) = true := decide_eq_true (by omega)
  have d2n : decide (i ≤ 999) = true := decide_eq_true (by omega)
  have hi0 : (0 : Int) ≤ (i : Int) := by omega
  have hi1 : (i : Int) < 1000 := by omega
  generalize (slotP P (i : Int)).cell = cl at c0 hsc
  clear h hG hb h1 h2
  go_enter Tryd.func16, Tryd.ntmps16
  go_wp2_with fail
  go_ret
  exact ⟨rfl, rfl⟩

set_option maxRecDepth 100000 in
set_option maxHeartbeats 1600000 in
theorem is_out (u : Nat) (id : Int) (w : World) (h : id < 1 ∨ 999 < id) :
    Calls Tryd.prog 16 #[.pointer (some ⟨u, 0, none⟩), .int .i64 id] w fun e w' => e = .returned (.bool false) ∧ w' = w := by
  by_cases h1 : 1 ≤ id
  · have d1 : decide ((1 : Int) ≤ id) = true := decide_eq_true h1
    have d2 : decide (id ≤ (999 : Int)) = false := decide_eq_false (by omega)
    clear h h1
    go_enter Tryd.func16, Tryd.ntmps16
    go_wp2_with fail
    go_ret
    exact ⟨rfl, rfl⟩
  · have d1 : decide ((1 : Int) ≤ id) = false := decide_eq_false h1
    clear h h1
    go_enter Tryd.func16, Tryd.ntmps16
    go_wp2_with fail
    go_ret
    exact ⟨rfl, rfl⟩
theorem at_out {P : List Mc} (hG : GP P) {id : Int} (h : id < 1 ∨ 999 < id) : atP P id = none := at_none.2 fun m hm e => by have := hG.ids m hm; omega
/-- Is there a machine of that number? -/
theorem ris_c (u : Nat) (P : List Mc) (id : Int) (w : World) (h : PkR w u P) (hG : GP P) :
    Calls Tryd.prog 16 #[.pointer (some ⟨u, 0, none⟩), .int .i64 id] w fun e w' => e = .returned (.bool (atP P id).isSome) ∧ w' = w := by
  by_cases hr : id < 1 ∨ 999 < id
  · rw [at_out hG hr]; exact is_out u id w hr
  · obtain ⟨i, rfl⟩ : ∃ i : Nat, id = (i : Int) := ⟨id.toNat, by omega⟩
    exact is_in u P i w h hG (by omega) (by omega)

theorem low_le (P : List Mc) (i : Int) : (lowP P i).length ≤ P.length := List.length_filter_le _ _
set_option maxRecDepth 100000 in
set_option maxHeartbeats 1600000 in
/-- How many. -/
theorem rcount_c (u : Nat) (P : List Mc) (w : World) (h : PkR w u P) (hG : GP P) :
    Calls Tryd.prog 28 #[.pointer (some ⟨u, 0, none⟩)] w fun e w' => e = .returned (.int .i64 (P.length : Int)) ∧ w' = w := by
  have H := Lib.hid h
  have HG := Lib.hid hG
  clear h hG
  go_enter Tryd.func28, Tryd.ntmps28
  go_wp2_with fail
  go_loopw [3, 4] (fun n v W => ∃ k : Nat, 1 ≤ k ∧ k ≤ 1000 ∧ v = .int .i64 (k : Int) ∧ n = .int .i64 ((lowP P (k : Int)).length : Int) ∧ W = w) (fun _ v _ => 1000 - (intOf v).toNat)
  case atStart => exact ⟨1, Nat.le_refl _, by omega, rfl, by rw [show ((1 : Nat) : Int) = 1 from rfl, low_one HG.out]; rfl, rfl⟩
  case round =>
    obtain ⟨k, hk1, hk, rfl, rfl, rfl⟩ := hrel
    by_cases hlt : k < 1000
    · obtain ⟨c0, _⟩ := H.out.cells (i := k) hlt
      have hsc := slot_cell HG.out (k : Int)
      have HLS := Lib.hid (low_succ HG.out.ord (k : Int))
      have hle := low_le P (k : Int)
      have hl24 := HG.out.len
      generalize (slotP P (k : Int)).cell = cl at c0 hsc
      obtain ⟨n, hn⟩ : ∃ n, (lowP P (k : Int)).length = n := ⟨_, rfl⟩
      rw [hn] at hle ⊢
      have HN := Lib.hid hn
      have hi0 : (0 : Int) ≤ (k : Int) := by omega
      have hi1 : (k : Int) < 1000 := by omega
      have w1 : IntKind.i64.wrap ((n : Int) + 1) = (n : Int) + 1 := IntWalk.i64_in _ (by omega)
      have w2 : wrap64 ((n : Int) + 1) = (n : Int) + 1 := by unfold wrap64; omega
      clear hn hl24
      cases ha : atP P (k : Int) with
      | none =>
        have HL : Hid ((lowP P ((k : Int) + 1)).length = n) := Lib.hid (by rw [HLS.out, List.length_append, HN.out, ha]; rfl)
        rw [ha] at hsc
        have hd : ¬ 0 < cl := of_decide_eq_false hsc
        clear ha hsc hle
        go_wp2_with fail
        go_roundw
        case rel => exact ⟨k + 1, by omega, by omega, by go_num, by rw [show ((k + 1 : Nat) : Int) = (k : Int) + 1 by omega, HL.out], by first | rfl | trivial⟩
        case measure => simp [intOf]; omega
      | some m =>
        have HL : Hid ((lowP P ((k : Int) + 1)).length = n + 1) := Lib.hid (by rw [HLS.out, List.length_append, HN.out, ha]; rfl)
        rw [ha] at hsc
        have hd : 0 < cl := of_decide_eq_true hsc
        clear ha hsc hle
        go_wp2_with fail
        go_roundw
        case rel => exact ⟨k + 1, by omega, by omega, by go_num, by rw [show ((k + 1 : Nat) : Int) = (k : Int) + 1 by omega, HL.out]; go_num, by first | rfl | trivial⟩
        case measure => simp [intOf]; omega
    · obtain rfl : k = 1000 := by omega
      have hl : (lowP P ((1000 : Nat) : Int)).length = P.length := by rw [show ((1000 : Nat) : Int) = 1000 from rfl, low_all HG.out]
      rw [hl]
      clear hl
      go_wp2_with fail
      go_ret
      exact ⟨rfl, rfl⟩
end Go.Proofs.YtaenpajmgenjhaaDoor
