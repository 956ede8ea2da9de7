/- The program's book by contracts: Drop, Of, Len. Conditions: the book is one that the calls have made; the sentinels lie where the program's text lays them. -/
import Derived.Test.YtogmlbjbjgkdcaaDoorBkD
import Derived.Test.YtogmlbjbjgkdcaaDoorRowBOd
import Derived.Test.YtogmlbjbjgkdcaaDoorErrs
import Derived.Deep.RegionHeld3
namespace Go.Proofs.YtogmlbjbjgkdcaaDoor
open Go Go.RowKit

theorem zero_on {w W : World} (hb : Below (w.heap.size + 1) (w.alloc (.cells #[.int .i64 0, .int .i64 0, .bool false, .int .i64 0, .int .i64 0, .int .i64 0] 36)) W) : BOdBlk W w.heap.size od0 := (BOdBlk.new w od0).below hb (by omega)

set_option maxRecDepth 100000 in
set_option maxHeartbeats 1600000 in
theorem of_none (q R : Nat) (b : RB) (id : Int) (w : World) (h : BBk w q R b) (hn : b.L.length ≤ 1000) (hp : posI b.L id = -1) :
    Calls Tryd.prog 35 #[.pointer (some ⟨q, 0, none⟩), .int .i64 id] w fun e w' => e = .returned (.tuple #[.agg #[.int .i64 od0.id, .int .i64 od0.tn, .bool od0.sell, .int .i64 od0.price, .int .i64 od0.lots, .int .i64 od0.seq], .bool false]) ∧ Below w.heap.size w w' := by
  have HA := Lib.hid (fun W (hW : BBk W q R b) => at_c q R b id W hW hn)
  rw [hp] at HA
  have H1 := Lib.hid (h.alloc (.cells #[.int .i64 0, .int .i64 0, .bool false, .int .i64 0, .int .i64 0, .int .i64 0] 36))
  clear h hp
  go_enter Tryd.func35, Tryd.ntmps35
  go_wp2_with fail
  refine (HA.out _ H1.out).mono ?_
  rintro e w1 ⟨rfl, hb1⟩
  have z : BOdBlk w1 w.heap.size od0 := (BOdBlk.new w od0).below hb1 (by simp)
  obtain ⟨z0, z1, z2, z3, z4, z5, zl⟩ := z.cells
  have zf : ∀ j, w1.frozen? ⟨w.heap.size, j, none⟩ = false := fun j => frozen_of_heap z j
  clear z
  go_wp2_with fail
  exact bodyPost_ret (v := .tuple #[.agg #[.int .i64 0, .int .i64 0, .bool false, .int .i64 0, .int .i64 0, .int .i64 0], .bool false]) (by simp [results, Tryd.results35, go_sem, z0, z1, z2, z3, z4, z5]) rfl ⟨rfl, by (repeat' (first | (with_reducible exact Below.refl _ _) | (with_reducible refine below_drewN ?_ _) | (with_reducible refine Below.drew ?_) | (with_reducible refine Below.alloc ?_ ?_ _) | (with_reducible refine Below.setCell ?_ ?_ _) | (with_reducible refine Below.trans ?_ (Below.mono (by with_reducible assumption) ?_)) | omega | (simp only [World.size_alloc] at *; omega) | (with_reducible refine Below.size (B := 0) ?_)))⟩

set_option maxRecDepth 100000 in
set_option maxHeartbeats 1600000 in
theorem of_some (q R : Nat) (b : RB) (id : Int) (w : World) (h : BBk w q R b) (hn : b.L.length ≤ 1000) (i : Nat) (x : Od) (hp : posI b.L id = (i : Nat)) (hx : b.L[i]? = some x) :
    Calls Tryd.prog 35 #[.pointer (some ⟨q, 0, none⟩), .int .i64 id] w fun e w' => e = .returned (.tuple #[.agg #[.int .i64 x.id, .int .i64 x.tn, .bool x.sell, .int .i64 x.price, .int .i64 x.lots, .int .i64 x.seq], .bool true]) ∧ Below w.heap.size w w' := by
  have HA := Lib.hid (fun W (hW : BBk W q R b) => at_c q R b id W hW hn)
  rw [hp] at HA
  have H1 := Lib.hid (h.alloc (.cells #[.int .i64 0, .int .i64 0, .bool false, .int .i64 0, .int .i64 0, .int .i64 0] 36))
  have HQ := Lib.hid h.lt
  have hil := (List.getElem?_eq_some_iff.1 hx).1
  clear h hp
  go_enter Tryd.func35, Tryd.ntmps35
  go_wp2_with fail
  refine (HA.out _ H1.out).mono ?_
  rintro e w1 ⟨rfl, hb1⟩
  have z : BOdBlk w1 w.heap.size od0 := (BOdBlk.new w od0).below hb1 (by simp)
  obtain ⟨z0, z1, z2, z3, z4, z5, zl⟩ := z.cells
  have zf : ∀ j, w1.frozen? ⟨w.heap.size, j, none⟩ = false := fun j => frozen_of_heap z j
  obtain ⟨A, c, c0, c1, cf, cx⟩ := (H1.out.on hb1).cells
  obtain ⟨ad, rfl, ea, rf, x0, x1, x2, x3, x4, x5⟩ := cx i x hx
  clear cx z HA H1
  have hi0 : (0 : Int) ≤ (i : Int) := by omega
  have hi1 : (i : Int) < (b.L.length : Int) := by omega
  go_wp2_with fail
  exact bodyPost_ret (v := .tuple #[.agg #[.int .i64 x.id, .int .i64 x.tn, .bool x.sell, .int .i64 x.price, .int .i64 x.lots, .int .i64 x.seq], .bool true]) (by simp [results, Tryd.results35, go_sem, z0, z1, z2, z3, z4, z5]) rfl ⟨rfl, by (repeat' (first | (with_reducible exact Below.refl _ _) | (with_reducible refine below_drewN ?_ _) | (with_reducible refine Below.drew ?_) | (with_reducible refine Below.alloc ?_ ?_ _) | (with_reducible refine Below.setCell ?_ ?_ _) | (with_reducible refine Below.trans ?_ (Below.mono (by with_reducible assumption) ?_)) | omega | (simp only [World.size_alloc] at *; omega) | (with_reducible refine Below.size (B := 0) ?_)))⟩

set_option maxRecDepth 100000 in
set_option maxHeartbeats 1600000 in
theorem of_nil (id : Int) (w : World) :
    Calls Tryd.prog 35 #[.pointer none, .int .i64 id] w fun e w' => e = .returned (.tuple #[.agg #[.int .i64 od0.id, .int .i64 od0.tn, .bool od0.sell, .int .i64 od0.price, .int .i64 od0.lots, .int .i64 od0.seq], .bool false]) ∧ Below w.heap.size w w' := by
  go_enter Tryd.func35, Tryd.ntmps35
  go_wp2_with fail
  refine (at_nil id _).mono ?_
  rintro e w1 ⟨rfl, hb1⟩
  have z : BOdBlk w1 w.heap.size od0 := (BOdBlk.new w od0).below hb1 (by simp)
  obtain ⟨z0, z1, z2, z3, z4, z5, zl⟩ := z.cells
  have zf : ∀ j, w1.frozen? ⟨w.heap.size, j, none⟩ = false := fun j => frozen_of_heap z j
  clear z
  go_wp2_with fail
  exact bodyPost_ret (v := .tuple #[.agg #[.int .i64 0, .int .i64 0, .bool false, .int .i64 0, .int .i64 0, .int .i64 0], .bool false]) (by simp [results, Tryd.results35, go_sem, z0, z1, z2, z3, z4, z5]) rfl ⟨rfl, by (repeat' (first | (with_reducible exact Below.refl _ _) | (with_reducible refine below_drewN ?_ _) | (with_reducible refine Below.drew ?_) | (with_reducible refine Below.alloc ?_ ?_ _) | (with_reducible refine Below.setCell ?_ ?_ _) | (with_reducible refine Below.trans ?_ (Below.mono (by with_reducible assumption) ?_)) | omega | (simp only [World.size_alloc] at *; omega) | (with_reducible refine Below.size (B := 0) ?_)))⟩

/-- How many there are. -/
theorem len_c (q R : Nat) (b : RB) (w : World) (h : BBk w q R b) :
    Calls Tryd.prog 21 #[.pointer (some ⟨q, 0, none⟩)] w fun e w' => e = .returned (.int .i64 (b.L.length : Int)) ∧ w' = w := by
  obtain ⟨A, c, c0, _⟩ := h.cells
  have HK := Lib.hid (known_c q A b.L.length c w c0)
  clear h c0
  go_enter Tryd.func21, Tryd.ntmps21
  go_wp2_with fail
  refine HK.out.mono ?_
  rintro e w1 ⟨rfl, rfl⟩
  go_wp2_with fail
  go_ret
  exact ⟨rfl, rfl⟩
theorem len_nil (w : World) :
    Calls Tryd.prog 21 #[.pointer none] w fun e w' => e = .returned (.int .i64 0) ∧ w' = w := by
  go_enter Tryd.func21, Tryd.ntmps21
  go_wp2_with fail
  refine (known_nil w).mono ?_
  rintro e w1 ⟨rfl, rfl⟩
  go_wp2_with fail
  go_ret
  exact ⟨rfl, rfl⟩
/-- An order by its number, whatever is there. -/
theorem of_c (q R : Nat) (b : RB) (id : Int) (w : World) (h : BBk w q R b) (hn : b.L.length ≤ 1000) :
    Calls Tryd.prog 35 #[.pointer (some ⟨q, 0, none⟩), .int .i64 id] w fun e w' => e = .returned (.tuple #[.agg #[.int .i64 ((b.L[pos b.L id]?).getD od0).id, .int .i64 ((b.L[pos b.L id]?).getD od0).tn, .bool ((b.L[pos b.L id]?).getD od0).sell, .int .i64 ((b.L[pos b.L id]?).getD od0).price, .int .i64 ((b.L[pos b.L id]?).getD od0).lots, .int .i64 ((b.L[pos b.L id]?).getD od0).seq], .bool (decide (pos b.L id < b.L.length))]) ∧ Below w.heap.size w w' := by
  rcases posI_cases b.L id with ⟨i, x, h1, h2, h3, h4⟩ | ⟨h1, h2⟩
  · have hil := (List.getElem?_eq_some_iff.1 h3).1
    rw [h2, h3, decide_eq_true hil]
    exact of_some q R b id w h hn i x h1 h3
  · rw [h2, List.getElem?_eq_none (Nat.le_refl _), decide_eq_false (Nat.lt_irrefl _)]
    exact of_none q R b id w h hn h1
end Go.Proofs.YtogmlbjbjgkdcaaDoor
