/- Deal's small functions by contract: which orders meet, who sells and who buys, the fill of two orders, what may come. Conditions: the book is one that the calls have made. -/
import Derived.Test.YtogmlbjbjgkdcaaDoorRowBOd
import Derived.Test.YtogmlbjbjgkdcaaDoorBkM
import Derived.Test.YtogmlbjbjgkdcaaDoorDlX
import Derived.Test.YtogmlbjbjgkdcaaDoorFl
import Derived.Deep.RegionWith
import Derived.Deep.DeepCutAuto
import Derived.Deep.CutBlock
import Derived.Deep.RegionLaw
import Derived.Deep.RegionHeld3
namespace Go.Proofs.YtogmlbjbjgkdcaaDoor
open Go Go.RowKit

theorem heap_at_fl {W : World} {g : Nat} (hg : g = W.heap.size) (o : Obj) : (W.alloc o).heap[g]? = some o := by subst hg; exact heap_alloc_new W o
def meetsO (x y : Od) : Bool := x.sell && !y.sell && decide (x.price ≤ y.price)
def sellO (o x : Od) : Od := if o.sell then o else x
def buyO (o x : Od) : Od := if o.sell then x else o
theorem meets_meet {o x : Od} (h : x.sell = !o.sell) : meetsO (sellO o x) (buyO o x) = meetO o x := by
  unfold meetsO sellO buyO meetO
  cases ho : o.sell <;> simp_all

set_option maxRecDepth 100000 in
set_option maxHeartbeats 1600000 in
theorem meets_c (x y : Od) (w : World) : Calls Tryd.prog 16 #[.agg #[.int .i64 x.id, .int .i64 x.tn, .bool x.sell, .int .i64 x.price, .int .i64 x.lots, .int .i64 x.seq], .agg #[.int .i64 y.id, .int .i64 y.tn, .bool y.sell, .int .i64 y.price, .int .i64 y.lots, .int .i64 y.seq]] w fun e w' => e = .returned (.bool (meetsO x y)) ∧ Below w.heap.size w w' := by
  obtain ⟨x0, x1, x2, x3, x4, x5⟩ := x
  obtain ⟨y0, y1, y2, y3, y4, y5⟩ := y
  unfold meetsO
  by_cases h : x3 ≤ y3
  · have hd : decide (x3 ≤ y3) = true := decide_eq_true h
    cases x2 <;> cases y2
    all_goals
      go_enter Tryd.func16, Tryd.ntmps16
      go_wp2_with fail
      go_ret
      exact ⟨by simp [h], by (repeat' (first | (with_reducible exact Below.refl _ _) | (with_reducible refine below_drewN ?_ _) | (with_reducible refine Below.drew ?_) | (with_reducible refine Below.alloc ?_ ?_ _) | (with_reducible refine Below.setCell ?_ ?_ _) | (with_reducible refine Below.trans ?_ (Below.mono (by with_reducible assumption) ?_)) | omega | (simp only [World.size_alloc] at *; omega) | (with_reducible refine Below.size (B := 0) ?_)))⟩
  · have hd : decide (x3 ≤ y3) = false := decide_eq_false h
    cases x2 <;> cases y2
    all_goals
      go_enter Tryd.func16, Tryd.ntmps16
      go_wp2_with fail
      go_ret
      exact ⟨by simp, by (repeat' (first | (with_reducible exact Below.refl _ _) | (with_reducible refine below_drewN ?_ _) | (with_reducible refine Below.drew ?_) | (with_reducible refine Below.alloc ?_ ?_ _) | (with_reducible refine Below.setCell ?_ ?_ _) | (with_reducible refine Below.trans ?_ (Below.mono (by with_reducible assumption) ?_)) | omega | (simp only [World.size_alloc] at *; omega) | (with_reducible refine Below.size (B := 0) ?_)))⟩

set_option maxRecDepth 100000 in
set_option maxHeartbeats 1600000 in
theorem sides_c (o x : Od) (w : World) : Calls Tryd.prog 23 #[.agg #[.int .i64 o.id, .int .i64 o.tn, .bool o.sell, .int .i64 o.price, .int .i64 o.lots, .int .i64 o.seq], .agg #[.int .i64 x.id, .int .i64 x.tn, .bool x.sell, .int .i64 x.price, .int .i64 x.lots, .int .i64 x.seq]] w fun e w' => e = .returned (.tuple #[.agg #[.int .i64 (sellO o x).id, .int .i64 (sellO o x).tn, .bool (sellO o x).sell, .int .i64 (sellO o x).price, .int .i64 (sellO o x).lots, .int .i64 (sellO o x).seq], .agg #[.int .i64 (buyO o x).id, .int .i64 (buyO o x).tn, .bool (buyO o x).sell, .int .i64 (buyO o x).price, .int .i64 (buyO o x).lots, .int .i64 (buyO o x).seq]]) ∧ Below w.heap.size w w' := by
  obtain ⟨o0, o1, o2, o3, o4, o5⟩ := o
  obtain ⟨x0, x1, x2, x3, x4, x5⟩ := x
  unfold sellO buyO
  cases o2
  · simp only [Bool.false_eq_true, if_false]
    go_enter Tryd.func23, Tryd.ntmps23
    go_wp2_with fail
    go_region
    all_goals go_wp2_with fail
    all_goals exact bodyPost_ret (v := .tuple #[.agg #[.int .i64 x0, .int .i64 x1, .bool x2, .int .i64 x3, .int .i64 x4, .int .i64 x5], .agg #[.int .i64 o0, .int .i64 o1, .bool false, .int .i64 o3, .int .i64 o4, .int .i64 o5]]) (by simp [results, Tryd.results23, go_sem]) rfl ⟨rfl, by (repeat' (first | (with_reducible exact Below.refl _ _) | (with_reducible refine below_drewN ?_ _) | (with_reducible refine Below.drew ?_) | (with_reducible refine Below.alloc ?_ ?_ _) | (with_reducible refine Below.setCell ?_ ?_ _) | (with_reducible refine Below.trans ?_ (Below.mono (by with_reducible assumption) ?_)) | omega | (simp only [World.size_alloc] at *; omega) | (with_reducible refine Below.size (B := 0) ?_)))⟩
  · simp only [if_true]
    go_enter Tryd.func23, Tryd.ntmps23
    go_wp2_with fail
    go_region
    all_goals go_wp2_with fail
    all_goals exact bodyPost_ret (v := .tuple #[.agg #[.int .i64 o0, .int .i64 o1, .bool true, .int .i64 o3, .int .i64 o4, .int .i64 o5], .agg #[.int .i64 x0, .int .i64 x1, .bool x2, .int .i64 x3, .int .i64 x4, .int .i64 x5]]) (by simp [results, Tryd.results23, go_sem]) rfl ⟨rfl, by (repeat' (first | (with_reducible exact Below.refl _ _) | (with_reducible refine below_drewN ?_ _) | (with_reducible refine Below.drew ?_) | (with_reducible refine Below.alloc ?_ ?_ _) | (with_reducible refine Below.setCell ?_ ?_ _) | (with_reducible refine Below.trans ?_ (Below.mono (by with_reducible assumption) ?_)) | omega | (simp only [World.size_alloc] at *; omega) | (with_reducible refine Below.size (B := 0) ?_)))⟩

theorem fill_side (o x : Od) (n : Int) : fillO o x n = ⟨(sellO o x).id, (buyO o x).id, (sellO o x).tn, (buyO o x).tn, x.price, n⟩ := by
  unfold fillO sellO buyO; split <;> rfl

set_option maxRecDepth 100000 in
set_option maxHeartbeats 1600000 in
theorem fill_c (o x : Od) (w : World) : Calls Tryd.prog 24 #[.agg #[.int .i64 o.id, .int .i64 o.tn, .bool o.sell, .int .i64 o.price, .int .i64 o.lots, .int .i64 o.seq], .agg #[.int .i64 x.id, .int .i64 x.tn, .bool x.sell, .int .i64 x.price, .int .i64 x.lots, .int .i64 x.seq]] w fun e w' => e = .returned (.agg #[.int .i64 (fillO o x (min o.lots x.lots)).ask, .int .i64 (fillO o x (min o.lots x.lots)).bid, .int .i64 (fillO o x (min o.lots x.lots)).seller, .int .i64 (fillO o x (min o.lots x.lots)).buyer, .int .i64 (fillO o x (min o.lots x.lots)).price, .int .i64 (fillO o x (min o.lots x.lots)).lots]) ∧ Below w.heap.size w w' := by
  rw [fill_side]
  have HS := Lib.hid (fun W => sides_c o x W)
  obtain ⟨y, hy⟩ : ∃ y, sellO o x = y := ⟨_, rfl⟩
  obtain ⟨z, hz⟩ : ∃ z, buyO o x = z := ⟨_, rfl⟩
  rw [hy, hz] at HS ⊢
  clear hy hz
  obtain ⟨m, hm⟩ : ∃ m, min o.lots x.lots = m := ⟨_, rfl⟩
  have HMN : ∀ ts t W, (Builtin.min_ ts t #[.int .i64 o.lots, .int .i64 x.lots]).run Tryd.prog W = .ok (.int .i64 m) W := by
    intro ts t W
    rw [run_min_int2, ← hm]
    congr 2
    split <;> omega
  rw [hm]
  clear hm
  obtain ⟨W0, hW0⟩ : ∃ W0, ((w.alloc (.cells #[.int .i64 o.id, .int .i64 o.tn, .bool o.sell, .int .i64 o.price, .int .i64 o.lots, .int .i64 o.seq] 36)).alloc (.cells #[.int .i64 x.id, .int .i64 x.tn, .bool x.sell, .int .i64 x.price, .int .i64 x.lots, .int .i64 x.seq] 36)).alloc (.cells #[.int .i64 0, .int .i64 0, .int .i64 0, .int .i64 0, .int .i64 0, .int .i64 0] 47) = W0 := ⟨_, rfl⟩
  obtain ⟨g, hg⟩ : ∃ g, w.heap.size = g := ⟨_, rfl⟩
  have hz : W0.heap.size = g + 1 + 1 + 1 := by rw [← hW0, ← hg]; simp
  have hb0 : Below g w W0 := by rw [← hW0, ← hg]; exact (((Below.refl _ _).alloc (Nat.le_refl _) _).alloc (by simp) _).alloc (by simp; omega) _
  have hO : BOdBlk W0 g o := by rw [← hW0, ← hg]; exact ((BOdBlk.new w o).alloc _).alloc _
  have hX : BOdBlk W0 (g + 1) x := by
    have := (BOdBlk.new (w.alloc (.cells #[.int .i64 o.id, .int .i64 o.tn, .bool o.sell, .int .i64 o.price, .int .i64 o.lots, .int .i64 o.seq] 36)) x).alloc (.cells #[.int .i64 0, .int .i64 0, .int .i64 0, .int .i64 0, .int .i64 0, .int .i64 0] 47)
    rw [World.size_alloc, hW0, hg] at this
    exact this
  have hF : FlB 47 W0 (g + 1 + 1) ⟨0, 0, 0, 0, 0, 0⟩ := by rw [← hW0]; exact heap_at_fl (by simp [← hg]) _
  go_enter Tryd.func24, Tryd.ntmps24
  go_upto_region 1 with fail
  try rw [hW0]
  try rw [hg]
  obtain ⟨o0, o1, o2, o3, o4, o5, ol⟩ := hO.cells
  obtain ⟨x0, x1, x2, x3, x4, x5, xl⟩ := hX.cells
  have HB0 := Lib.hid hb0
  have HGG : Hid (w.heap.size = g) := Lib.hid (by first | exact hg | rfl)
  have HZ := Lib.hid hz
  have HO := Lib.hid hO
  have HX := Lib.hid hX
  have HF := Lib.hid hF
  clear hW0 hg hb0 hz hO hX hF
  go_wp2_with fail
  refine (HS.out _).mono ?_
  rintro e w1 ⟨rfl, b1⟩
  obtain ⟨o0, o1, o2, o3, o4, o5, ol⟩ := (HO.out.on b1).cells
  obtain ⟨x0, x1, x2, x3, x4, x5, xl⟩ := (HX.out.on b1).cells
  have HB1 : Hid (Below g w w1) := Lib.hid (HB0.out.trans (b1.mono (by rw [HZ.out]; omega)))
  clear HS
  go_upto_region 2 with fail
  obtain ⟨W2, hW2⟩ : ∃ W2, (w1.alloc (.cells #[.int .i64 y.id, .int .i64 y.tn, .bool y.sell, .int .i64 y.price, .int .i64 y.lots, .int .i64 y.seq] 36)).alloc (.cells #[.int .i64 z.id, .int .i64 z.tn, .bool z.sell, .int .i64 z.price, .int .i64 z.lots, .int .i64 z.seq] 36) = W2 := ⟨_, rfl⟩
  obtain ⟨h, hh⟩ : ∃ h, w1.heap.size = h := ⟨_, rfl⟩
  have hy : BOdBlk W2 h y := by rw [← hW2, ← hh]; exact (BOdBlk.new w1 y).alloc _
  have hz : BOdBlk W2 (h + 1) z := by
    have := BOdBlk.new (w1.alloc (.cells #[.int .i64 y.id, .int .i64 y.tn, .bool y.sell, .int .i64 y.price, .int .i64 y.lots, .int .i64 y.seq] 36)) z
    rw [World.size_alloc, hW2, hh] at this
    exact this
  have hb2 : Below w1.heap.size w1 W2 := by rw [← hW2]; exact ((Below.refl _ _).alloc (Nat.le_refl _) _).alloc (by simp) _
  have HB2 : Hid (Below g w W2) := Lib.hid (HB1.out.trans (hb2.mono (Nat.le_trans (by rw [HGG.out]; exact Nat.le_refl _) HB1.out.size)))
  rw [hW2, hh]
  obtain ⟨g1, hg1⟩ : ∃ g1, g + 1 = g1 := ⟨_, rfl⟩
  obtain ⟨g2, hg2⟩ : ∃ g2, g1 + 1 = g2 := ⟨_, rfl⟩
  have HG2 : Hid (g ≤ g2) := Lib.hid (by omega)
  have ho2 := HO.out.on b1 |>.on hb2
  have hx2 := HX.out.on b1 |>.on hb2
  have hf2 := FlB.on hb2 (FlB.on b1 HF.out)
  rw [hg1] at hx2 ⊢
  rw [hg1, hg2] at hf2
  rw [hg2]
  obtain ⟨o0, o1, o2, o3, o4, o5, ol⟩ := ho2.cells
  obtain ⟨x0, x1, x2, x3, x4, x5, xl⟩ := hx2.cells
  obtain ⟨f0, f1, f2, f3, f4, f5, fl⟩ := hf2.cells
  simp only at f0 f1 f2 f3 f4 f5
  obtain ⟨y0, y1, y2, y3, y4, y5, yl⟩ := hy.cells
  obtain ⟨z0, z1, z2, z3, z4, z5, zl⟩ := hz.cells
  have ff : ∀ j, W2.frozen? ⟨g2, j, none⟩ = false := fun j => frozen_of_heap hf2 j
  have HF2 := Lib.hid hf2
  clear b1 hW2 hh hy hz hb2 hg1 hg2 ho2 hx2 hf2
  go_wp2_with fail
  rw [HGG.out]
  have hbW : Below g w W2 := HB2.out
  have hle : g ≤ g2 := HG2.out
  have s0 := heap_setCell_same W2 g2 0 _ _ (.int .i64 y.id) HF2.out
  have s1 := heap_setCell_same _ g2 1 _ _ (.int .i64 z.id) s0
  have s2 := heap_setCell_same _ g2 2 _ _ (.int .i64 y.tn) s1
  have s3 := heap_setCell_same _ g2 3 _ _ (.int .i64 z.tn) s2
  have s4 := heap_setCell_same _ g2 4 _ _ (.int .i64 x.price) s3
  have s5 : FlB 47 (((((W2.setCell ⟨g2, 0, none⟩ (.int .i64 y.id)).setCell ⟨g2, 1, none⟩ (.int .i64 z.id)).setCell ⟨g2, 2, none⟩ (.int .i64 y.tn)).setCell ⟨g2, 3, none⟩ (.int .i64 z.tn)).setCell ⟨g2, 4, none⟩ (.int .i64 x.price) |>.setCell ⟨g2, 5, none⟩ (.int .i64 m)) g2 ⟨y.id, z.id, y.tn, z.tn, x.price, m⟩ := heap_setCell_same _ g2 5 _ _ (.int .i64 m) s4
  have hb3 : Below g w (((((W2.setCell ⟨g2, 0, none⟩ (.int .i64 y.id)).setCell ⟨g2, 1, none⟩ (.int .i64 z.id)).setCell ⟨g2, 2, none⟩ (.int .i64 y.tn)).setCell ⟨g2, 3, none⟩ (.int .i64 z.tn)).setCell ⟨g2, 4, none⟩ (.int .i64 x.price) |>.setCell ⟨g2, 5, none⟩ (.int .i64 m)) := by (repeat' (first | (with_reducible exact Below.refl _ _) | (with_reducible refine below_drewN ?_ _) | (with_reducible refine Below.drew ?_) | (with_reducible refine Below.alloc ?_ ?_ _) | (with_reducible refine Below.setCell ?_ ?_ _) | (with_reducible refine Below.trans ?_ (Below.mono (by with_reducible assumption) ?_)) | omega | (simp only [World.size_alloc, World.size_setCell, World.size_drew, Go.Proofs.YtogmlbjbjgkdcaaDoor.World.size_drewN] at *; omega) | (with_reducible refine Below.size (B := 0) ?_)))
  clear s0 s1 s2 s3 s4
  generalize (((((W2.setCell ⟨g2, 0, none⟩ (.int .i64 y.id)).setCell ⟨g2, 1, none⟩ (.int .i64 z.id)).setCell ⟨g2, 2, none⟩ (.int .i64 y.tn)).setCell ⟨g2, 3, none⟩ (.int .i64 z.tn)).setCell ⟨g2, 4, none⟩ (.int .i64 x.price) |>.setCell ⟨g2, 5, none⟩ (.int .i64 m)) = W3 at *
  obtain ⟨p0, p1, p2, p3, p4, p5, pl⟩ := s5.cells
  simp only at p0 p1 p2 p3 p4 p5
  exact bodyPost_ret (v := .agg #[.int .i64 y.id, .int .i64 z.id, .int .i64 y.tn, .int .i64 z.tn, .int .i64 x.price, .int .i64 m]) (by simp [results, Tryd.results24, go_sem, p0, p1, p2, p3, p4, p5]) rfl ⟨rfl, hb3⟩
end Go.Proofs.YtogmlbjbjgkdcaaDoor
