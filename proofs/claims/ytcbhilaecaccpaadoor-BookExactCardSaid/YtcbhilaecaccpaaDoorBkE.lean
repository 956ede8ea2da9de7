/- The program's book by contracts: Drop, Of, Len. Conditions: the book is one that the calls have made; the sentinels lie where the program's text lays them. -/
import Derived.Test.YtcbhilaecaccpaaDoorBkD
import Derived.Test.YtcbhilaecaccpaaDoorRowBOd
import Derived.Test.YtcbhilaecaccpaaDoorErrs
import Derived.Deep.RegionHeld3
namespace Go.Proofs.YtcbhilaecaccpaaDoor
open Go Go.RowKit

set_option maxRecDepth 100000 in
set_option maxHeartbeats 1600000 in
theorem drop_nil (s : Nat → Addr) (id : Int) (w : World) (hs : Sent s w) :
    Calls Tryd.prog 8 #[.pointer none, .int .i64 id] w fun e w' => e = .returned (.tuple #[.agg #[.int .i64 od0.id, .int .i64 od0.tn, .bool od0.sell, .int .i64 od0.price, .int .i64 od0.lots, .int .i64 od0.seq], errV s 2]) ∧ Below w.heap.size w w' := by
  rw [show errV s 2 = .iface 115 (.pointer (some (s 1))) from rfl]
  have hl := lt_of_cell (hs.cell 1 (by omega))
  have n1 : ¬ w.heap.size = 0 := fun e => by rw [e] at hl; exact Nat.lt_irrefl _ hl
  have n2 : ¬ 0 = w.heap.size := fun e => n1 e.symm
  obtain ⟨W, hW⟩ : ∃ W, W = w.alloc (.cells #[.int .i64 0, .int .i64 0, .bool false, .int .i64 0, .int .i64 0, .int .i64 0] 31) := ⟨_, rfl⟩
  have hb : Below w.heap.size w W := by rw [hW]; exact (Below.refl _ _).alloc (Nat.le_refl _) _
  have e1 : W.cell? ⟨0, 0, none⟩ = some (.iface 115 (.pointer (some (s 1)))) := (hs.below hb (Nat.le_refl _)).cell 1 (by omega)
  have z : BOdBlk W w.heap.size od0 := by rw [hW]; exact BOdBlk.new w od0
  obtain ⟨z0, z1, z2, z3, z4, z5, zl⟩ := z.cells
  have zf : ∀ j, W.frozen? ⟨w.heap.size, j, none⟩ = false := fun j => frozen_of_heap z j
  clear z hs hl
  go_enter Tryd.func8, Tryd.ntmps8
  go_wp2_with fail
  rw [← hW]
  clear hW
  go_region
  all_goals go_wp2_with fail
  all_goals exact bodyPost_ret (v := .tuple #[.agg #[.int .i64 0, .int .i64 0, .bool false, .int .i64 0, .int .i64 0, .int .i64 0], .iface 115 (.pointer (some (s 1)))]) (by simp [results, Tryd.results8, go_sem, z0, z1, z2, z3, z4, z5]) rfl ⟨rfl, by (repeat' (first | (with_reducible exact Below.refl _ _) | (with_reducible refine below_drewN ?_ _) | (with_reducible refine Below.drew ?_) | (with_reducible refine Below.alloc ?_ ?_ _) | (with_reducible refine Below.setCell ?_ ?_ _) | (with_reducible refine Below.trans ?_ (Below.mono (by with_reducible assumption) ?_)) | omega | (simp only at *; omega) | (with_reducible refine Below.size (B := 0) ?_)))⟩

set_option maxRecDepth 100000 in
set_option maxHeartbeats 1600000 in
theorem drop_none (s : Nat → Addr) (q R : Nat) (b : RB) (id : Int) (w : World) (hs : Sent s w) (h : BBk w q R b) (hn : b.L.length ≤ 1000) (hp : posI b.L id = -1) :
    Calls Tryd.prog 8 #[.pointer (some ⟨q, 0, none⟩), .int .i64 id] w fun e w' => e = .returned (.tuple #[.agg #[.int .i64 od0.id, .int .i64 od0.tn, .bool od0.sell, .int .i64 od0.price, .int .i64 od0.lots, .int .i64 od0.seq], errV s 5]) ∧ Below w.heap.size w w' := by
  rw [show errV s 5 = .iface 115 (.pointer (some (s 4))) from rfl]
  have HA := Lib.hid (fun W (hW : BBk W q R b) => at_c q R b id W hW hn)
  rw [hp] at HA
  have hl := lt_of_cell (hs.cell 4 (by omega))
  have n1 : ¬ w.heap.size = 1 := fun e => by rw [e] at hl; exact Nat.lt_irrefl _ hl
  have n2 : ¬ 1 = w.heap.size := fun e => n1 e.symm
  have H1 := Lib.hid (h.alloc (.cells #[.int .i64 0, .int .i64 0, .bool false, .int .i64 0, .int .i64 0, .int .i64 0] 31))
  have HS := Lib.hid (hs.below ((Below.refl w.heap.size w).alloc (Nat.le_refl _) (.cells #[.int .i64 0, .int .i64 0, .bool false, .int .i64 0, .int .i64 0, .int .i64 0] 31)) (Nat.le_refl _))
  clear h hp hs hl
  go_enter Tryd.func8, Tryd.ntmps8
  go_wp2_with fail
  refine (HA.out _ H1.out).mono ?_
  rintro e w1 ⟨rfl, hb1⟩
  have e1 : w1.cell? ⟨1, 0, none⟩ = some (.iface 115 (.pointer (some (s 4)))) := (HS.out.below hb1 (Nat.le_refl _)).cell 4 (by omega)
  have z : BOdBlk w1 w.heap.size od0 := (BOdBlk.new w od0).below hb1 (by simp)
  obtain ⟨z0, z1, z2, z3, z4, z5, zl⟩ := z.cells
  have zf : ∀ j, w1.frozen? ⟨w.heap.size, j, none⟩ = false := fun j => frozen_of_heap z j
  clear z
  go_wp2_with fail
  go_region
  all_goals go_wp2_with fail
  all_goals exact bodyPost_ret (v := .tuple #[.agg #[.int .i64 0, .int .i64 0, .bool false, .int .i64 0, .int .i64 0, .int .i64 0], .iface 115 (.pointer (some (s 4)))]) (by simp [results, Tryd.results8, go_sem, z0, z1, z2, z3, z4, z5]) rfl ⟨rfl, by (repeat' (first | (with_reducible exact Below.refl _ _) | (with_reducible refine below_drewN ?_ _) | (with_reducible refine Below.drew ?_) | (with_reducible refine Below.alloc ?_ ?_ _) | (with_reducible refine Below.setCell ?_ ?_ _) | (with_reducible refine Below.trans ?_ (Below.mono (by with_reducible assumption) ?_)) | omega | (simp only [World.size_alloc] at *; omega) | (with_reducible refine Below.size (B := 0) ?_)))⟩
theorem zero_on {w W : World} (hb : Below (w.heap.size + 1) (w.alloc (.cells #[.int .i64 0, .int .i64 0, .bool false, .int .i64 0, .int .i64 0, .int .i64 0] 31)) W) : BOdBlk W w.heap.size od0 := (BOdBlk.new w od0).below hb (by omega)

set_option maxRecDepth 100000 in
set_option maxHeartbeats 1600000 in
theorem drop_some (q R : Nat) (b : RB) (id : Int) (w : World) (h : BBk w q R b) (hn : b.L.length ≤ 1000) (i : Nat) (x : Od) (hp : posI b.L id = (i : Nat)) (hx : b.L[i]? = some x) :
    Calls Tryd.prog 8 #[.pointer (some ⟨q, 0, none⟩), .int .i64 id] w fun e w' => e = .returned (.tuple #[.agg #[.int .i64 x.id, .int .i64 x.tn, .bool x.sell, .int .i64 x.price, .int .i64 x.lots, .int .i64 x.seq], .nilIface]) ∧ BBk w' q R ⟨b.L.take i ++ b.L.drop (i + 1), b.came⟩ ∧ Chg q R w w' := by
  have HA := Lib.hid (fun W (hW : BBk W q R b) => at_c q R b id W hW hn)
  rw [hp] at HA
  have H1 := Lib.hid (h.alloc (.cells #[.int .i64 0, .int .i64 0, .bool false, .int .i64 0, .int .i64 0, .int .i64 0] 31))
  have HQ := Lib.hid h.lt
  have hil := (List.getElem?_eq_some_iff.1 hx).1
  have HV := Lib.hid (fun W (hW : BBk W q R b) => remove_c q R b i W hW hil hn)
  clear h hp
  go_enter Tryd.func8, Tryd.ntmps8
  go_wp2_with fail
  refine (HA.out _ H1.out).mono ?_
  rintro e w1 ⟨rfl, hb1⟩
  have H2 := Lib.hid (H1.out.on hb1)
  have Z1 : Hid (BOdBlk w1 w.heap.size od0) := Lib.hid ((BOdBlk.new w od0).below hb1 (by simp))
  have B1 : Hid (Below w.heap.size w w1) := Lib.hid (((Below.refl _ _).alloc (Nat.le_refl _) _).trans (hb1.mono (by simp)))
  obtain ⟨A, c, c0, c1, cf, cx⟩ := H2.out.cells
  obtain ⟨ad, rfl, ea, rf, x0, x1, x2, x3, x4, x5⟩ := cx i x hx
  clear cx hb1 HA H1
  have hi0 : (0 : Int) ≤ (i : Int) := by omega
  have hi1 : (i : Int) < (b.L.length : Int) := by omega
  go_wp2_with fail
  refine (HV.out _ (H2.out.alloc _)).mono ?_
  rintro e w2 ⟨rfl, hB2, hC2⟩
  have HB := Lib.hid hB2
  have HC := Lib.hid hC2
  have hq0 := HQ.out
  have hsz := B1.out.size
  have z : BOdBlk w2 w.heap.size od0 := hC2.row (Z1.out.alloc _) (by omega) (by omega)
  have y : BOdBlk w2 w1.heap.size x := hC2.row (BOdBlk.new w1 x) (by omega) (by omega)
  obtain ⟨z0, z1, z2, z3, z4, z5, zl⟩ := z.cells
  obtain ⟨y0, y1, y2, y3, y4, y5, yl⟩ := y.cells
  have zf : ∀ j, w2.frozen? ⟨w.heap.size, j, none⟩ = false := fun j => frozen_of_heap z j
  clear hB2 hC2 z y c0 c1 cf x0 x1 x2 x3 x4 x5 ea rf H2 HV hq0 hsz
  go_wp2_with fail
  have n1 : w.heap.size ≠ q := by have := HQ.out; omega
  have n2 : ∀ k, k ≠ w.heap.size → ∀ (W : World) j v, (W.setCell ⟨w.heap.size, j, none⟩ v).heap[k]? = W.heap[k]? := fun k hk W j v => heap_setCell_other W ⟨w.heap.size, j, none⟩ k v hk
  exact bodyPost_ret (v := .tuple #[.agg #[.int .i64 x.id, .int .i64 x.tn, .bool x.sell, .int .i64 x.price, .int .i64 x.lots, .int .i64 x.seq], .nilIface]) (by simp [results, Tryd.results8, go_sem, z0, z1, z2, z3, z4, z5]) rfl ⟨rfl, by
    obtain ⟨v, b1, b2, b3⟩ := HB.out
    refine ⟨v, ?_, b2.same fun k hk => ?_, b3⟩
    · rw [n2 _ n1.symm, n2 _ n1.symm, n2 _ n1.symm, n2 _ n1.symm, n2 _ n1.symm, n2 _ n1.symm]; exact b1
    · have hkR : k = R := by rw [hk] at b3; exact b3
      have hk2 : k ≠ w.heap.size := by have := HQ.out; omega
      rw [n2 _ hk2, n2 _ hk2, n2 _ hk2, n2 _ hk2, n2 _ hk2, n2 _ hk2], by
    have hC : Chg q R w w2 := (Chg.of_below (B1.out.alloc B1.out.size _)).trans HC.out (.inl rfl)
    exact (((((hC.setCell (.inr (.inr (Nat.le_refl _))) _).setCell (.inr (.inr (Nat.le_refl _))) _).setCell (.inr (.inr (Nat.le_refl _))) _).setCell (.inr (.inr (Nat.le_refl _))) _).setCell (.inr (.inr (Nat.le_refl _))) _).setCell (.inr (.inr (Nat.le_refl _))) _⟩

/-- Drop, whatever is there. -/
theorem drop_c (s : Nat → Addr) (q R : Nat) (b : RB) (id : Int) (w : World) (hs : Sent s w) (h : BBk w q R b) (hn : b.L.length ≤ 1000) :
    Calls Tryd.prog 8 #[.pointer (some ⟨q, 0, none⟩), .int .i64 id] w fun e w' => e = .returned (.tuple #[.agg #[.int .i64 ((dropR13 b id).2.1).id, .int .i64 ((dropR13 b id).2.1).tn, .bool ((dropR13 b id).2.1).sell, .int .i64 ((dropR13 b id).2.1).price, .int .i64 ((dropR13 b id).2.1).lots, .int .i64 ((dropR13 b id).2.1).seq], errV s (dropR13 b id).2.2]) ∧ BBk w' q R (dropR13 b id).1 ∧ Chg q R w w' := by
  rcases posI_cases b.L id with ⟨i, x, h1, h2, h3, h4⟩ | ⟨h1, h2⟩
  · have hd : dropR13 b id = (⟨b.L.take i ++ b.L.drop (i + 1), b.came⟩, x, 0) := by unfold dropR13; rw [h2, h3]
    rw [hd]
    exact drop_some q R b id w h hn i x h1 h3
  · have hd : dropR13 b id = (b, od0, 5) := by unfold dropR13; rw [h2, List.getElem?_eq_none (Nat.le_refl _)]
    rw [hd]
    exact (drop_none s q R b id w hs h hn h1).mono fun e w' ⟨he, hb⟩ => ⟨he, h.on hb, Chg.of_below hb⟩
set_option maxRecDepth 100000 in
set_option maxHeartbeats 1600000 in
theorem of_none (q R : Nat) (b : RB) (id : Int) (w : World) (h : BBk w q R b) (hn : b.L.length ≤ 1000) (hp : posI b.L id = -1) :
    Calls Tryd.prog 16 #[.pointer (some ⟨q, 0, none⟩), .int .i64 id] w fun e w' => e = .returned (.tuple #[.agg #[.int .i64 od0.id, .int .i64 od0.tn, .bool od0.sell, .int .i64 od0.price, .int .i64 od0.lots, .int .i64 od0.seq], .bool false]) ∧ Below w.heap.size w w' := by
  have HA := Lib.hid (fun W (hW : BBk W q R b) => at_c q R b id W hW hn)
  rw [hp] at HA
  have H1 := Lib.hid (h.alloc (.cells #[.int .i64 0, .int .i64 0, .bool false, .int .i64 0, .int .i64 0, .int .i64 0] 31))
  clear h hp
  go_enter Tryd.func16, Tryd.ntmps16
  go_wp2_with fail
  refine (HA.out _ H1.out).mono ?_
  rintro e w1 ⟨rfl, hb1⟩
  have z : BOdBlk w1 w.heap.size od0 := (BOdBlk.new w od0).below hb1 (by simp)
  obtain ⟨z0, z1, z2, z3, z4, z5, zl⟩ := z.cells
  have zf : ∀ j, w1.frozen? ⟨w.heap.size, j, none⟩ = false := fun j => frozen_of_heap z j
  clear z
  go_wp2_with fail
  exact bodyPost_ret (v := .tuple #[.agg #[.int .i64 0, .int .i64 0, .bool false, .int .i64 0, .int .i64 0, .int .i64 0], .bool false]) (by simp [results, Tryd.results16, go_sem, z0, z1, z2, z3, z4, z5]) rfl ⟨rfl, by (repeat' (first | (with_reducible exact Below.refl _ _) | (with_reducible refine below_drewN ?_ _) | (with_reducible refine Below.drew ?_) | (with_reducible refine Below.alloc ?_ ?_ _) | (with_reducible refine Below.setCell ?_ ?_ _) | (with_reducible refine Below.trans ?_ (Below.mono (by with_reducible assumption) ?_)) | omega | (simp only [World.size_alloc] at *; omega) | (with_reducible refine Below.size (B := 0) ?_)))⟩

set_option maxRecDepth 100000 in
set_option maxHeartbeats 1600000 in
theorem of_some (q R : Nat) (b : RB) (id : Int) (w : World) (h : BBk w q R b) (hn : b.L.length ≤ 1000) (i : Nat) (x : Od) (hp : posI b.L id = (i : Nat)) (hx : b.L[i]? = some x) :
    Calls Tryd.prog 16 #[.pointer (some ⟨q, 0, none⟩), .int .i64 id] w fun e w' => e = .returned (.tuple #[.agg #[.int .i64 x.id, .int .i64 x.tn, .bool x.sell, .int .i64 x.price, .int .i64 x.lots, .int .i64 x.seq], .bool true]) ∧ Below w.heap.size w w' := by
  have HA := Lib.hid (fun W (hW : BBk W q R b) => at_c q R b id W hW hn)
  rw [hp] at HA
  have H1 := Lib.hid (h.alloc (.cells #[.int .i64 0, .int .i64 0, .bool false, .int .i64 0, .int .i64 0, .int .i64 0] 31))
  have HQ := Lib.hid h.lt
  have hil := (List.getElem?_eq_some_iff.1 hx).1
  clear h hp
  go_enter Tryd.func16, Tryd.ntmps16
  go_wp2_with fail
  refine (HA.out _ H1.out).mono ?_
  rintro e w1 ⟨rfl, hb1⟩
  have z : BOdBlk w1 w.heap.size od0 := (BOdBlk.new w od0).below hb1 (by simp)
  obtain ⟨z0, z1, z2, z3, z4, z5, zl⟩ := z.cells
  have zf : ∀ j, w1.frozen? ⟨w.heap.size, j, none⟩ = false := fun j => frozen_of_heap z j
  obtain ⟨A, c, c0, c1, cf, cx⟩ := (H1.out.on hb1).cells
  obtain ⟨ad, rfl, ea, rf, x0, x1, x2, x3, x4, x5⟩ := cx i x hx
  clear cx z HA H1
  have hi0 : (0 : Int) ≤ (i : Int) := by omega
  have hi1 : (i : Int) < (b.L.length : Int) := by omega
  go_wp2_with fail
  exact bodyPost_ret (v := .tuple #[.agg #[.int .i64 x.id, .int .i64 x.tn, .bool x.sell, .int .i64 x.price, .int .i64 x.lots, .int .i64 x.seq], .bool true]) (by simp [results, Tryd.results16, go_sem, z0, z1, z2, z3, z4, z5]) rfl ⟨rfl, by (repeat' (first | (with_reducible exact Below.refl _ _) | (with_reducible refine below_drewN ?_ _) | (with_reducible refine Below.drew ?_) | (with_reducible refine Below.alloc ?_ ?_ _) | (with_reducible refine Below.setCell ?_ ?_ _) | (with_reducible refine Below.trans ?_ (Below.mono (by with_reducible assumption) ?_)) | omega | (simp only [World.size_alloc] at *; omega) | (with_reducible refine Below.size (B := 0) ?_)))⟩

set_option maxRecDepth 100000 in
set_option maxHeartbeats 1600000 in
theorem of_nil (id : Int) (w : World) :
    Calls Tryd.prog 16 #[.pointer none, .int .i64 id] w fun e w' => e = .returned (.tuple #[.agg #[.int .i64 od0.id, .int .i64 od0.tn, .bool od0.sell, .int .i64 od0.price, .int .i64 od0.lots, .int .i64 od0.seq], .bool false]) ∧ Below w.heap.size w w' := by
  go_enter Tryd.func16, Tryd.ntmps16
  go_wp2_with fail
  refine (at_nil id _).mono ?_
  rintro e w1 ⟨rfl, hb1⟩
  have z : BOdBlk w1 w.heap.size od0 := (BOdBlk.new w od0).below hb1 (by simp)
  obtain ⟨z0, z1, z2, z3, z4, z5, zl⟩ := z.cells
  have zf : ∀ j, w1.frozen? ⟨w.heap.size, j, none⟩ = false := fun j => frozen_of_heap z j
  clear z
  go_wp2_with fail
  exact bodyPost_ret (v := .tuple #[.agg #[.int .i64 0, .int .i64 0, .bool false, .int .i64 0, .int .i64 0, .int .i64 0], .bool false]) (by simp [results, Tryd.results16, go_sem, z0, z1, z2, z3, z4, z5]) rfl ⟨rfl, by (repeat' (first | (with_reducible exact Below.refl _ _) | (with_reducible refine below_drewN ?_ _) | (with_reducible refine Below.drew ?_) | (with_reducible refine Below.alloc ?_ ?_ _) | (with_reducible refine Below.setCell ?_ ?_ _) | (with_reducible refine Below.trans ?_ (Below.mono (by with_reducible assumption) ?_)) | omega | (simp only [World.size_alloc] at *; omega) | (with_reducible refine Below.size (B := 0) ?_)))⟩

/-- How many there are. -/
theorem len_c (q R : Nat) (b : RB) (w : World) (h : BBk w q R b) :
    Calls Tryd.prog 20 #[.pointer (some ⟨q, 0, none⟩)] w fun e w' => e = .returned (.int .i64 (b.L.length : Int)) ∧ w' = w := by
  obtain ⟨A, c, c0, _⟩ := h.cells
  have HK := Lib.hid (known_c q A b.L.length c w c0)
  clear h c0
  go_enter Tryd.func20, Tryd.ntmps20
  go_wp2_with fail
  refine HK.out.mono ?_
  rintro e w1 ⟨rfl, rfl⟩
  go_wp2_with fail
  go_ret
  exact ⟨rfl, rfl⟩
theorem len_nil (w : World) :
    Calls Tryd.prog 20 #[.pointer none] w fun e w' => e = .returned (.int .i64 0) ∧ w' = w := by
  go_enter Tryd.func20, Tryd.ntmps20
  go_wp2_with fail
  refine (known_nil w).mono ?_
  rintro e w1 ⟨rfl, rfl⟩
  go_wp2_with fail
  go_ret
  exact ⟨rfl, rfl⟩
/-- An order by its number, whatever is there. -/
theorem of_c (q R : Nat) (b : RB) (id : Int) (w : World) (h : BBk w q R b) (hn : b.L.length ≤ 1000) :
    Calls Tryd.prog 16 #[.pointer (some ⟨q, 0, none⟩), .int .i64 id] w fun e w' => e = .returned (.tuple #[.agg #[.int .i64 ((b.L[pos b.L id]?).getD od0).id, .int .i64 ((b.L[pos b.L id]?).getD od0).tn, .bool ((b.L[pos b.L id]?).getD od0).sell, .int .i64 ((b.L[pos b.L id]?).getD od0).price, .int .i64 ((b.L[pos b.L id]?).getD od0).lots, .int .i64 ((b.L[pos b.L id]?).getD od0).seq], .bool (decide (pos b.L id < b.L.length))]) ∧ Below w.heap.size w w' := by
  rcases posI_cases b.L id with ⟨i, x, h1, h2, h3, h4⟩ | ⟨h1, h2⟩
  · have hil := (List.getElem?_eq_some_iff.1 h3).1
    rw [h2, h3, decide_eq_true hil]
    exact of_some q R b id w h hn i x h1 h3
  · rw [h2, List.getElem?_eq_none (Nat.le_refl _), decide_eq_false (Nat.lt_irrefl _)]
    exact of_none q R b id w h hn h1
end Go.Proofs.YtcbhilaecaccpaaDoor
