/- Orders of the program and of the reference: their form, their equality. No conditions. -/
import Derived.Test.YtogmlbjbjgkdcaaDoorOdR
import Derived.Laws.StructEq
import Derived.Deep.RegionHeld3
namespace Go.Proofs.YtogmlbjbjgkdcaaDoor
open Go Go.RowKit

set_option maxRecDepth 100000 in
theorem form_c (x : Od) (w : World) : Calls Tryd.prog 10 #[.agg #[.int .i64 x.id, .int .i64 x.tn, .bool x.sell, .int .i64 x.price, .int .i64 x.lots, .int .i64 x.seq]] w fun e w' => e = .returned (.agg #[.int .i64 x.id, .int .i64 x.tn, .bool x.sell, .int .i64 x.price, .int .i64 x.lots, .int .i64 x.seq]) ∧ Below w.heap.size w w' := by
  go_enter Tryd.func10, Tryd.ntmps10
  go_wp2_with fail
  exact bodyPost_ret (v := .agg #[.int .i64 x.id, .int .i64 x.tn, .bool x.sell, .int .i64 x.price, .int .i64 x.lots, .int .i64 x.seq]) (by simp [results, Tryd.results10, go_sem]) rfl ⟨rfl, by (repeat' (first | (with_reducible exact Below.refl _ _) | (with_reducible refine below_drewN ?_ _) | (with_reducible refine Below.drew ?_) | (with_reducible refine Below.alloc ?_ ?_ _) | (with_reducible refine Below.setCell ?_ ?_ _) | (with_reducible refine Below.trans ?_ (Below.mono (by with_reducible assumption) ?_)) | omega | (simp only [World.size_alloc] at *; omega) | (with_reducible refine Below.size (B := 0) ?_)))⟩

theorem eqOd (x y : Od) (w : World) : (Op.equalIn 10000 40 (.agg #[.int .i64 x.id, .int .i64 x.tn, .bool x.sell, .int .i64 x.price, .int .i64 x.lots, .int .i64 x.seq]) (.agg #[.int .i64 y.id, .int .i64 y.tn, .bool y.sell, .int .i64 y.price, .int .i64 y.lots, .int .i64 y.seq])).run Tryd.prog w = .ok (decide (x = y)) w := by
  have hs : Tryd.prog.stoodInHeld 40 = false := by kernel_rfl
  have ht : Tryd.prog.underlying 40 = some (.struct (Tryd.prog.fieldsOf 40)) := by kernel_rfl
  have hf : ∃ fs, Tryd.prog.fieldsOf 40 = fs ∧ Tryd.prog.underlying 40 = some (.struct fs) := ⟨_, rfl, ht⟩
  obtain ⟨fs, h1, h2⟩ := hf
  rw [Tryd.underlying40] at h2
  simp only [Option.some.injEq, TypeDesc.struct.injEq] at h2
  subst h2
  rw [run_equalIn_agg w 9999 40 _ _ ht hs, h1]
  have q0 : ∀ (W : World) (a0 a1 a2 a3 a4 a5 : Value), (part 3 #[a0, a1, a2, a3, a4, a5] 0).run Tryd.prog W = .ok a0 W := fun _ _ _ _ _ _ _ => by kernel_rfl
  have q1 : ∀ (W : World) (a0 a1 a2 a3 a4 a5 : Value), (part 3 #[a0, a1, a2, a3, a4, a5] 1).run Tryd.prog W = .ok a1 W := fun _ _ _ _ _ _ _ => by kernel_rfl
  have q2 : ∀ (W : World) (a0 a1 a2 a3 a4 a5 : Value), (part 4 #[a0, a1, a2, a3, a4, a5] 2).run Tryd.prog W = .ok a2 W := fun _ _ _ _ _ _ _ => by kernel_rfl
  have q3 : ∀ (W : World) (a0 a1 a2 a3 a4 a5 : Value), (part 3 #[a0, a1, a2, a3, a4, a5] 3).run Tryd.prog W = .ok a3 W := fun _ _ _ _ _ _ _ => by kernel_rfl
  have q4 : ∀ (W : World) (a0 a1 a2 a3 a4 a5 : Value), (part 3 #[a0, a1, a2, a3, a4, a5] 4).run Tryd.prog W = .ok a4 W := fun _ _ _ _ _ _ _ => by kernel_rfl
  have q5 : ∀ (W : World) (a0 a1 a2 a3 a4 a5 : Value), (part 3 #[a0, a1, a2, a3, a4, a5] 5).run Tryd.prog W = .ok a5 W := fun _ _ _ _ _ _ _ => by kernel_rfl
  have qb : ∀ (W : World) (a b : Bool), (Op.equalIn 9999 4 (.bool a) (.bool b)).run Tryd.prog W = .ok (a == b) W := fun W a b => by cases a <;> cases b <;> kernel_rfl
  obtain ⟨x0, x1, x2, x3, x4, x5⟩ := x
  obtain ⟨y0, y1, y2, y3, y4, y5⟩ := y
  by_cases e0 : x0 = y0
  · by_cases e1 : x1 = y1
    · by_cases e2 : x2 = y2
      · by_cases e3 : x3 = y3
        · by_cases e4 : x4 = y4 <;> by_cases e5 : x5 = y5 <;>
            simp [Op.eqFields, q0, q1, q2, q3, q4, q5, qb, run_equalIn_int _ _ _ _ _ _ _ Tryd.underlying3, e0, e1, e2, e3, e4, e5]
        · simp [Op.eqFields, q0, q1, q2, q3, qb, run_equalIn_int _ _ _ _ _ _ _ Tryd.underlying3, e0, e1, e2, e3]
      · simp [Op.eqFields, q0, q1, q2, qb, run_equalIn_int _ _ _ _ _ _ _ Tryd.underlying3, e0, e1, e2]
    · simp [Op.eqFields, q0, q1, run_equalIn_int _ _ _ _ _ _ _ Tryd.underlying3, e0, e1]
  · simp [Op.eqFields, q0, run_equalIn_int _ _ _ _ _ _ _ Tryd.underlying3, e0]

theorem add_cellE (a : Addr) (m r : Nat) (hr : r ≠ 0) : a.add (m + r) = ⟨(a.add m).block, (a.add m).off + r, none⟩ := by
  unfold Addr.add; split <;> split <;> simp_all <;> omega

set_option maxRecDepth 100000 in
set_option maxHeartbeats 3200000 in
/-- Are orders the document's? Both lists may lie anywhere. -/
theorem same13_c (v1 v2 : Value) (L1 L2 : List Od) (w : World) (h1 : LiesE encOd w v1 L1) (h2 : LiesE encOd w v2 L2) (hn : L1.length ≤ 1000) :
    Calls Tryd.prog 12 #[v1, v2] w fun e w' => e = .returned (.bool (decide (L1 = L2))) ∧ Below w.heap.size w w' := by
  have HL1 := Lib.hid h1
  have HL2 := Lib.hid h2
  obtain ⟨A1, c1, rfl⟩ := h1.form
  obtain ⟨A2, c2, rfl⟩ := h2.form
  clear h1 h2
  by_cases hlen : L1.length = L2.length
  · have HLEN := Lib.hid hlen
    rw [← hlen]
    clear hlen
    go_enter Tryd.func12, Tryd.ntmps12
    go_wp2_with fail
    go_loopw [5] (fun u W => ∃ k : Nat, k ≤ L1.length ∧ u = .int .i64 (k : Int) ∧ (∀ j, j < k → L1[j]? = L2[j]?) ∧ Below w.heap.size w W) (fun u _ => L1.length - (intOf u).toNat)
    case atStart => exact ⟨0, Nat.zero_le _, rfl, fun j hj => by omega, Below.refl _ _⟩
    case round =>
      obtain ⟨k, hk, rfl, hah, hbW⟩ := hrel
      have HAH := Lib.hid hah
      have HBW := Lib.hid hbW
      clear hah hbW
      by_cases hkl : k < L1.length
      · obtain ⟨x, hx⟩ : ∃ x, L1[k]? = some x := ⟨_, List.getElem?_eq_getElem hkl⟩
        obtain ⟨y, hy⟩ : ∃ y, L2[k]? = some y := ⟨_, List.getElem?_eq_getElem (by rw [← HLEN.out]; exact hkl)⟩
        obtain ⟨a1, rfl, g1, hc1⟩ := HL1.out.at hx
        obtain ⟨a2, rfl, g2, hc2⟩ := HL2.out.at hy
        have hk0 : (0 : Int) ≤ (k : Int) := by omega
        have hk1 : (k : Int) < (L1.length : Int) := by omega
        have x0 : w.cell? (a1.add (k * 6)) = some (.int .i64 x.id) := by have := hc1 0 _ rfl; exact this
        have x1 : w.cell? ⟨(a1.add (k * 6)).block, (a1.add (k * 6)).off + 1, none⟩ = some (.int .i64 x.tn) := by have := hc1 1 _ rfl; rw [add_cellE _ _ _ (by decide)] at this; exact this
        have x2 : w.cell? ⟨(a1.add (k * 6)).block, (a1.add (k * 6)).off + 2, none⟩ = some (.bool x.sell) := by have := hc1 2 _ rfl; rw [add_cellE _ _ _ (by decide)] at this; exact this
        have x3 : w.cell? ⟨(a1.add (k * 6)).block, (a1.add (k * 6)).off + 3, none⟩ = some (.int .i64 x.price) := by have := hc1 3 _ rfl; rw [add_cellE _ _ _ (by decide)] at this; exact this
        have x4 : w.cell? ⟨(a1.add (k * 6)).block, (a1.add (k * 6)).off + 4, none⟩ = some (.int .i64 x.lots) := by have := hc1 4 _ rfl; rw [add_cellE _ _ _ (by decide)] at this; exact this
        have x5 : w.cell? ⟨(a1.add (k * 6)).block, (a1.add (k * 6)).off + 5, none⟩ = some (.int .i64 x.seq) := by have := hc1 5 _ rfl; rw [add_cellE _ _ _ (by decide)] at this; exact this
        have y0 : w.cell? (a2.add (k * 6)) = some (.int .i64 y.id) := by have := hc2 0 _ rfl; exact this
        have y1 : w.cell? ⟨(a2.add (k * 6)).block, (a2.add (k * 6)).off + 1, none⟩ = some (.int .i64 y.tn) := by have := hc2 1 _ rfl; rw [add_cellE _ _ _ (by decide)] at this; exact this
        have y2 : w.cell? ⟨(a2.add (k * 6)).block, (a2.add (k * 6)).off + 2, none⟩ = some (.bool y.sell) := by have := hc2 2 _ rfl; rw [add_cellE _ _ _ (by decide)] at this; exact this
        have y3 : w.cell? ⟨(a2.add (k * 6)).block, (a2.add (k * 6)).off + 3, none⟩ = some (.int .i64 y.price) := by have := hc2 3 _ rfl; rw [add_cellE _ _ _ (by decide)] at this; exact this
        have y4 : w.cell? ⟨(a2.add (k * 6)).block, (a2.add (k * 6)).off + 4, none⟩ = some (.int .i64 y.lots) := by have := hc2 4 _ rfl; rw [add_cellE _ _ _ (by decide)] at this; exact this
        have y5 : w.cell? ⟨(a2.add (k * 6)).block, (a2.add (k * 6)).off + 5, none⟩ = some (.int .i64 y.seq) := by have := hc2 5 _ rfl; rw [add_cellE _ _ _ (by decide)] at this; exact this
        have b1 : (a1.add (k * 6)).block < w.heap.size := by have := g1 (by decide); unfold Addr.add; split <;> exact this
        have b2 : (a2.add (k * 6)).block < w.heap.size := by have := g2 (by decide); unfold Addr.add; split <;> exact this
        have HSS : Hid (∀ W : World, Below w.heap.size w W → W.cell? (a1.add (k * 6)) = some (.int .i64 x.id) ∧ W.cell? ⟨(a1.add (k * 6)).block, (a1.add (k * 6)).off + 1, none⟩ = some (.int .i64 x.tn) ∧ W.cell? ⟨(a1.add (k * 6)).block, (a1.add (k * 6)).off + 2, none⟩ = some (.bool x.sell) ∧ W.cell? ⟨(a1.add (k * 6)).block, (a1.add (k * 6)).off + 3, none⟩ = some (.int .i64 x.price) ∧ W.cell? ⟨(a1.add (k * 6)).block, (a1.add (k * 6)).off + 4, none⟩ = some (.int .i64 x.lots) ∧ W.cell? ⟨(a1.add (k * 6)).block, (a1.add (k * 6)).off + 5, none⟩ = some (.int .i64 x.seq) ∧ W.cell? (a2.add (k * 6)) = some (.int .i64 y.id) ∧ W.cell? ⟨(a2.add (k * 6)).block, (a2.add (k * 6)).off + 1, none⟩ = some (.int .i64 y.tn) ∧ W.cell? ⟨(a2.add (k * 6)).block, (a2.add (k * 6)).off + 2, none⟩ = some (.bool y.sell) ∧ W.cell? ⟨(a2.add (k * 6)).block, (a2.add (k * 6)).off + 3, none⟩ = some (.int .i64 y.price) ∧ W.cell? ⟨(a2.add (k * 6)).block, (a2.add (k * 6)).off + 4, none⟩ = some (.int .i64 y.lots) ∧ W.cell? ⟨(a2.add (k * 6)).block, (a2.add (k * 6)).off + 5, none⟩ = some (.int .i64 y.seq) ∧ Below w.heap.size w W) := Lib.hid fun W hb => ⟨(hb.cell (p := (a1.add (k * 6))) b1).trans x0, (hb.cell (p := ⟨(a1.add (k * 6)).block, (a1.add (k * 6)).off + 1, none⟩) b1).trans x1, (hb.cell (p := ⟨(a1.add (k * 6)).block, (a1.add (k * 6)).off + 2, none⟩) b1).trans x2, (hb.cell (p := ⟨(a1.add (k * 6)).block, (a1.add (k * 6)).off + 3, none⟩) b1).trans x3, (hb.cell (p := ⟨(a1.add (k * 6)).block, (a1.add (k * 6)).off + 4, none⟩) b1).trans x4, (hb.cell (p := ⟨(a1.add (k * 6)).block, (a1.add (k * 6)).off + 5, none⟩) b1).trans x5, (hb.cell (p := (a2.add (k * 6))) b2).trans y0, (hb.cell (p := ⟨(a2.add (k * 6)).block, (a2.add (k * 6)).off + 1, none⟩) b2).trans y1, (hb.cell (p := ⟨(a2.add (k * 6)).block, (a2.add (k * 6)).off + 2, none⟩) b2).trans y2, (hb.cell (p := ⟨(a2.add (k * 6)).block, (a2.add (k * 6)).off + 3, none⟩) b2).trans y3, (hb.cell (p := ⟨(a2.add (k * 6)).block, (a2.add (k * 6)).off + 4, none⟩) b2).trans y4, (hb.cell (p := ⟨(a2.add (k * 6)).block, (a2.add (k * 6)).off + 5, none⟩) b2).trans y5, hb⟩
        replace x0 := (HSS.out wr HBW.out).1
        replace x1 := (HSS.out wr HBW.out).2.1
        replace x2 := (HSS.out wr HBW.out).2.2.1
        replace x3 := (HSS.out wr HBW.out).2.2.2.1
        replace x4 := (HSS.out wr HBW.out).2.2.2.2.1
        replace x5 := (HSS.out wr HBW.out).2.2.2.2.2.1
        replace y0 := (HSS.out wr HBW.out).2.2.2.2.2.2.1
        replace y1 := (HSS.out wr HBW.out).2.2.2.2.2.2.2.1
        replace y2 := (HSS.out wr HBW.out).2.2.2.2.2.2.2.2.1
        replace y3 := (HSS.out wr HBW.out).2.2.2.2.2.2.2.2.2.1
        replace y4 := (HSS.out wr HBW.out).2.2.2.2.2.2.2.2.2.2.1
        replace y5 := (HSS.out wr HBW.out).2.2.2.2.2.2.2.2.2.2.2.1
        have HXX := Lib.hid hx
        have HYY := Lib.hid hy
        have hbw := HBW.out
        clear hx hy hc1 hc2
        by_cases hxy : x = y
        · have hE : ∀ W : World, (Op.equalIn 10000 40 (.agg #[.int .i64 x.id, .int .i64 x.tn, .bool x.sell, .int .i64 x.price, .int .i64 x.lots, .int .i64 x.seq]) (.agg #[.int .i64 y.id, .int .i64 y.tn, .bool y.sell, .int .i64 y.price, .int .i64 y.lots, .int .i64 y.seq])).run Tryd.prog W = .ok true W := fun W => (eqOd x y W).trans (by rw [decide_eq_true hxy])
          have HXY := Lib.hid hxy
          clear hxy
          go_wp2_with fail
          go_region_held3 (fun W => W.cell? (a1.add (k * 6)) = some (.int .i64 x.id) ∧ W.cell? ⟨(a1.add (k * 6)).block, (a1.add (k * 6)).off + 1, none⟩ = some (.int .i64 x.tn) ∧ W.cell? ⟨(a1.add (k * 6)).block, (a1.add (k * 6)).off + 2, none⟩ = some (.bool x.sell) ∧ W.cell? ⟨(a1.add (k * 6)).block, (a1.add (k * 6)).off + 3, none⟩ = some (.int .i64 x.price) ∧ W.cell? ⟨(a1.add (k * 6)).block, (a1.add (k * 6)).off + 4, none⟩ = some (.int .i64 x.lots) ∧ W.cell? ⟨(a1.add (k * 6)).block, (a1.add (k * 6)).off + 5, none⟩ = some (.int .i64 x.seq) ∧ W.cell? (a2.add (k * 6)) = some (.int .i64 y.id) ∧ W.cell? ⟨(a2.add (k * 6)).block, (a2.add (k * 6)).off + 1, none⟩ = some (.int .i64 y.tn) ∧ W.cell? ⟨(a2.add (k * 6)).block, (a2.add (k * 6)).off + 2, none⟩ = some (.bool y.sell) ∧ W.cell? ⟨(a2.add (k * 6)).block, (a2.add (k * 6)).off + 3, none⟩ = some (.int .i64 y.price) ∧ W.cell? ⟨(a2.add (k * 6)).block, (a2.add (k * 6)).off + 4, none⟩ = some (.int .i64 y.lots) ∧ W.cell? ⟨(a2.add (k * 6)).block, (a2.add (k * 6)).off + 5, none⟩ = some (.int .i64 y.seq) ∧ Below w.heap.size w W)
            (exact HSS.out _ (by (repeat' (first | (with_reducible exact Below.refl _ _) | (with_reducible refine below_drewN ?_ _) | (with_reducible refine Below.drew ?_) | (with_reducible refine Below.alloc ?_ ?_ _) | (with_reducible refine Below.setCell ?_ ?_ _) | (with_reducible refine Below.trans ?_ (Below.mono (by with_reducible assumption) ?_)) | omega | (simp only [World.size_drew] at *; omega) | (with_reducible refine Below.size (B := 0) ?_)))))
            (first | (go_at_call 10; refine (form_c x _).mono ?_; rintro e w1 ⟨rfl, hb1⟩))
          have KZ : Hid (Below w.heap.size w w1) := Lib.hid (HBW.out.trans ((⟨hb1.os, hb1.tape, hb1.output, hb1.size, hb1.block⟩ : Below wr.heap.size wr w1).mono HBW.out.size))
          clear hb1
          go_wp2_with fail
          go_roundw
          case rel =>
            refine ⟨k + 1, by omega, by go_num, fun j hj => ?_, KZ.out⟩
            rcases Nat.lt_succ_iff_lt_or_eq.1 hj with hj | rfl
            · exact HAH.out j hj
            · rw [HXX.out, HYY.out, HXY.out]
          case measure => simp [intOf]; omega
        · have hE : ∀ W : World, (Op.equalIn 10000 40 (.agg #[.int .i64 x.id, .int .i64 x.tn, .bool x.sell, .int .i64 x.price, .int .i64 x.lots, .int .i64 x.seq]) (.agg #[.int .i64 y.id, .int .i64 y.tn, .bool y.sell, .int .i64 y.price, .int .i64 y.lots, .int .i64 y.seq])).run Tryd.prog W = .ok false W := fun W => (eqOd x y W).trans (by rw [decide_eq_false hxy])
          have HXY := Lib.hid hxy
          clear hxy
          go_wp2_with fail
          go_region_held3 (fun W => W.cell? (a1.add (k * 6)) = some (.int .i64 x.id) ∧ W.cell? ⟨(a1.add (k * 6)).block, (a1.add (k * 6)).off + 1, none⟩ = some (.int .i64 x.tn) ∧ W.cell? ⟨(a1.add (k * 6)).block, (a1.add (k * 6)).off + 2, none⟩ = some (.bool x.sell) ∧ W.cell? ⟨(a1.add (k * 6)).block, (a1.add (k * 6)).off + 3, none⟩ = some (.int .i64 x.price) ∧ W.cell? ⟨(a1.add (k * 6)).block, (a1.add (k * 6)).off + 4, none⟩ = some (.int .i64 x.lots) ∧ W.cell? ⟨(a1.add (k * 6)).block, (a1.add (k * 6)).off + 5, none⟩ = some (.int .i64 x.seq) ∧ W.cell? (a2.add (k * 6)) = some (.int .i64 y.id) ∧ W.cell? ⟨(a2.add (k * 6)).block, (a2.add (k * 6)).off + 1, none⟩ = some (.int .i64 y.tn) ∧ W.cell? ⟨(a2.add (k * 6)).block, (a2.add (k * 6)).off + 2, none⟩ = some (.bool y.sell) ∧ W.cell? ⟨(a2.add (k * 6)).block, (a2.add (k * 6)).off + 3, none⟩ = some (.int .i64 y.price) ∧ W.cell? ⟨(a2.add (k * 6)).block, (a2.add (k * 6)).off + 4, none⟩ = some (.int .i64 y.lots) ∧ W.cell? ⟨(a2.add (k * 6)).block, (a2.add (k * 6)).off + 5, none⟩ = some (.int .i64 y.seq) ∧ Below w.heap.size w W)
            (exact HSS.out _ (by (repeat' (first | (with_reducible exact Below.refl _ _) | (with_reducible refine below_drewN ?_ _) | (with_reducible refine Below.drew ?_) | (with_reducible refine Below.alloc ?_ ?_ _) | (with_reducible refine Below.setCell ?_ ?_ _) | (with_reducible refine Below.trans ?_ (Below.mono (by with_reducible assumption) ?_)) | omega | (simp only [World.size_drew] at *; omega) | (with_reducible refine Below.size (B := 0) ?_)))))
            (first | (go_at_call 10; refine (form_c x _).mono ?_; rintro e w1 ⟨rfl, hb1⟩))
          have KZ : Hid (Below w.heap.size w w1) := Lib.hid (HBW.out.trans ((⟨hb1.os, hb1.tape, hb1.output, hb1.size, hb1.block⟩ : Below wr.heap.size wr w1).mono HBW.out.size))
          clear hb1
          go_wp2_with fail
          go_ret
          refine ⟨?_, KZ.out⟩
          rw [decide_eq_false fun e => HXY.out (by have h1 := HXX.out; rw [e, HYY.out] at h1; exact (Option.some.inj h1).symm)]
          rfl
      · obtain rfl : k = L1.length := by omega
        go_wp2_with fail
        go_ret
        refine ⟨?_, HBW.out⟩
        rw [decide_eq_true (List.ext_getElem? fun j => by
          by_cases hj : j < L1.length
          · exact HAH.out j hj
          · rw [List.getElem?_eq_none (by omega), List.getElem?_eq_none (by rw [← HLEN.out]; omega)])]
        rfl
  · have hne : ¬ ((L1.length : Int) = (L2.length : Int)) := by omega
    have HNE := Lib.hid hlen
    clear hlen
    go_enter Tryd.func12, Tryd.ntmps12
    go_wp2_with fail
    go_ret
    refine ⟨?_, Below.refl _ _⟩
    rw [decide_eq_false fun e => HNE.out (by rw [e])]
    rfl
end Go.Proofs.YtogmlbjbjgkdcaaDoor
