/- The reference's book of stage 13 by contracts: List. Conditions: the book is one that the calls have made. -/
import Derived.Test.YtogmlbjbjgkdcaaDoorOdU
import Derived.Deep.RegionHeld3
namespace Go.Proofs.YtogmlbjbjgkdcaaDoor
open Go Go.RowKit

/-- What a round begins with. -/
structure LsR (w : World) (q R : Nat) (b : RB) (sell : Bool) (i : Nat) (v : Value) (wr : World) : Prop where
  book : RBk wr q R b
  own : OwnE encOd 40 wr w.heap.size v (listR13 (b.L.take i) sell)
  below : Below w.heap.size w wr

set_option maxRecDepth 100000 in
set_option maxHeartbeats 3200000 in
theorem rlist13_c (q R : Nat) (b : RB) (sell : Bool) (w : World) (h : RBk w q R b) (hn : b.L.length ≤ 32) :
    Calls Tryd.prog 14 #[.pointer (some ⟨q, 0, none⟩), .bool sell] w fun e w' => ∃ v, e = .returned v ∧ OwnE encOd 40 w' w.heap.size v (listR13 b.L sell) ∧ Below w.heap.size w w' := by
  have H0 := Lib.hid h
  have hst : Hid (LsR w q R b sell 0 (.slice (some ⟨w.heap.size, 0, none⟩) 0 0) (w.alloc (.cells #[] 40))) := Lib.hid
    ⟨h.on ((Below.refl _ _).alloc (Nat.le_refl _) _), OwnE.none (E := encOd) w (Nat.le_refl _), (Below.refl _ _).alloc (Nat.le_refl _) _⟩
  clear h
  go_enter Tryd.func14, Tryd.ntmps14
  go_wp2_with fail
  go_loopw [5, 6] (fun v u wr => ∃ i : Nat, i ≤ b.L.length ∧ u = .int .i64 (i : Int) ∧ LsR w q R b sell i v wr) (fun _ u _ => b.L.length - (intOf u).toNat)
  case atStart => exact ⟨0, Nat.zero_le _, rfl, hst.out⟩
  case round =>
    obtain ⟨i, hi, rfl, hls⟩ := hrel
    have HLS := Lib.hid hls
    clear hls hst
    obtain ⟨A, c, c0, c1, cf, cx⟩ := HLS.out.book.cells
    by_cases hlt : i < b.L.length
    · obtain ⟨x, hx⟩ : ∃ x, b.L[i]? = some x := ⟨_, List.getElem?_eq_getElem hlt⟩
      obtain ⟨ad, rfl, ea, rf, x0, x1, x2, x3, x4, x5⟩ := cx i x hx
      clear cx
      have HX := Lib.hid hx
      clear hx
      have hi0 : (0 : Int) ≤ (i : Int) := by omega
      have hi1 : (i : Int) < (b.L.length : Int) := by omega
      by_cases hs : x.sell = sell
      · have hs' : (x.sell != sell) = false := by rw [hs]; simp
        have HS := Lib.hid hs
        obtain ⟨Ao, co, rfl⟩ := HLS.out.own.form
        obtain ⟨O, hO⟩ : ∃ O, listR13 (b.L.take i) sell = O := ⟨_, rfl⟩
        have hOl : O.length ≤ 32 := by rw [← hO]; exact Nat.le_trans (listR13_le _ _) (by rw [List.length_take]; omega)
        rw [hO]
        have HO := Lib.hid hO
        clear hO
        go_wp2_with fail
        clear hs hs'
        try clear hs2
        try clear hs3
        obtain ⟨wo, rfl⟩ : ∃ wo, wo = wr := ⟨wr, rfl⟩
        go_loopw [7] (fun u W => ∃ k : Nat, k ≤ O.length ∧ u = .int .i64 (k : Int) ∧ (∀ j y, j < k → O[j]? = some y → aheadO y x = true) ∧ Below wo.heap.size wo W) (fun u _ => O.length - (intOf u).toNat)
        case atStart => exact ⟨0, Nat.zero_le _, rfl, fun j y hj => by omega, Below.refl _ _⟩
        case round =>
          obtain ⟨k, hk, rfl, hah, hbW⟩ := hrel
          have HAH := Lib.hid hah
          have HBW := Lib.hid hbW
          have c0' := hbW.cell (p := ⟨q, 0, none⟩) HLS.out.book.lt.1
          rw [c0] at c0'
          have rl := HLS.out.book.lt.2.1
          have y0 := (hbW.cell (p := ⟨R, i * 6, none⟩) rl).trans x0
          have y1 := (hbW.cell (p := ⟨R, i * 6 + 1, none⟩) rl).trans x1
          have y2 := (hbW.cell (p := ⟨R, i * 6 + 2, none⟩) rl).trans x2
          have y3 := (hbW.cell (p := ⟨R, i * 6 + 3, none⟩) rl).trans x3
          have y4 := (hbW.cell (p := ⟨R, i * 6 + 4, none⟩) rl).trans x4
          have y5 := (hbW.cell (p := ⟨R, i * 6 + 5, none⟩) rl).trans x5
          have HC := Lib.hid c0
          clear hah hbW x0 x1 x2 x3 x4 x5 c0 c1 cf rf
          by_cases hkl : k < O.length
          · obtain ⟨y, hy⟩ : ∃ y, O[k]? = some y := ⟨_, List.getElem?_eq_getElem hkl⟩
            obtain ⟨ao, go, rfl, eo, _, gl, _, hoc⟩ := HLS.out.own.at (HO.out ▸ hy)
            have hk0 : (0 : Int) ≤ (k : Int) := by omega
            have hk1 : (k : Int) < (O.length : Int) := by omega
            have o0 := (HBW.out.cell (p := ⟨go, k * 6 + 0, none⟩) gl).trans (hoc 0 _ rfl)
            have o1 := (HBW.out.cell (p := ⟨go, k * 6 + 1, none⟩) gl).trans (hoc 1 _ rfl)
            have o2 := (HBW.out.cell (p := ⟨go, k * 6 + 2, none⟩) gl).trans (hoc 2 _ rfl)
            have o3 := (HBW.out.cell (p := ⟨go, k * 6 + 3, none⟩) gl).trans (hoc 3 _ rfl)
            have o4 := (HBW.out.cell (p := ⟨go, k * 6 + 4, none⟩) gl).trans (hoc 4 _ rfl)
            have o5 := (HBW.out.cell (p := ⟨go, k * 6 + 5, none⟩) gl).trans (hoc 5 _ rfl)
            rw [Nat.add_zero] at o0
            have glw : go < wr.heap.size := Nat.lt_of_lt_of_le gl HBW.out.size
            have rlw : R < wr.heap.size := Nat.lt_of_lt_of_le rl HBW.out.size
            have qlw : q < wr.heap.size := Nat.lt_of_lt_of_le HLS.out.book.lt.1 HBW.out.size
            have HSS : Hid (∀ W : World, Below wr.heap.size wr W → W.cell? ⟨q, 0, none⟩ = some (.slice (some ad) b.L.length c) ∧ W.cell? ⟨R, i * 6, none⟩ = some (.int .i64 x.id) ∧ W.cell? ⟨R, i * 6 + 1, none⟩ = some (.int .i64 x.tn) ∧ W.cell? ⟨R, i * 6 + 2, none⟩ = some (.bool x.sell) ∧ W.cell? ⟨R, i * 6 + 3, none⟩ = some (.int .i64 x.price) ∧ W.cell? ⟨R, i * 6 + 4, none⟩ = some (.int .i64 x.lots) ∧ W.cell? ⟨R, i * 6 + 5, none⟩ = some (.int .i64 x.seq) ∧ W.cell? ⟨go, k * 6, none⟩ = some (.int .i64 y.id) ∧ W.cell? ⟨go, k * 6 + 1, none⟩ = some (.int .i64 y.tn) ∧ W.cell? ⟨go, k * 6 + 2, none⟩ = some (.bool y.sell) ∧ W.cell? ⟨go, k * 6 + 3, none⟩ = some (.int .i64 y.price) ∧ W.cell? ⟨go, k * 6 + 4, none⟩ = some (.int .i64 y.lots) ∧ W.cell? ⟨go, k * 6 + 5, none⟩ = some (.int .i64 y.seq) ∧ Below wr.heap.size wr W) := Lib.hid fun W hb => ⟨(hb.cell (p := ⟨q, 0, none⟩) qlw).trans c0', (hb.cell (p := ⟨R, i * 6, none⟩) rlw).trans y0, (hb.cell (p := ⟨R, i * 6 + 1, none⟩) rlw).trans y1, (hb.cell (p := ⟨R, i * 6 + 2, none⟩) rlw).trans y2, (hb.cell (p := ⟨R, i * 6 + 3, none⟩) rlw).trans y3, (hb.cell (p := ⟨R, i * 6 + 4, none⟩) rlw).trans y4, (hb.cell (p := ⟨R, i * 6 + 5, none⟩) rlw).trans y5, (hb.cell (p := ⟨go, k * 6, none⟩) glw).trans o0, (hb.cell (p := ⟨go, k * 6 + 1, none⟩) glw).trans o1, (hb.cell (p := ⟨go, k * 6 + 2, none⟩) glw).trans o2, (hb.cell (p := ⟨go, k * 6 + 3, none⟩) glw).trans o3, (hb.cell (p := ⟨go, k * 6 + 4, none⟩) glw).trans o4, (hb.cell (p := ⟨go, k * 6 + 5, none⟩) glw).trans o5, hb⟩
            clear hoc
            obtain ⟨bb, hbb⟩ : ∃ bb, aheadO y x = bb := ⟨_, rfl⟩
            have HAC := Lib.hid (fun W => rahead_c y x W)
            rw [hbb] at HAC
            have HBB := Lib.hid hbb
            have HY := Lib.hid hy
            clear hbb hy
            cases bb
            · go_wp2_with fail
              go_region_held3 (fun W => W.cell? ⟨q, 0, none⟩ = some (.slice (some ad) b.L.length c) ∧ W.cell? ⟨R, i * 6, none⟩ = some (.int .i64 x.id) ∧ W.cell? ⟨R, i * 6 + 1, none⟩ = some (.int .i64 x.tn) ∧ W.cell? ⟨R, i * 6 + 2, none⟩ = some (.bool x.sell) ∧ W.cell? ⟨R, i * 6 + 3, none⟩ = some (.int .i64 x.price) ∧ W.cell? ⟨R, i * 6 + 4, none⟩ = some (.int .i64 x.lots) ∧ W.cell? ⟨R, i * 6 + 5, none⟩ = some (.int .i64 x.seq) ∧ W.cell? ⟨go, k * 6, none⟩ = some (.int .i64 y.id) ∧ W.cell? ⟨go, k * 6 + 1, none⟩ = some (.int .i64 y.tn) ∧ W.cell? ⟨go, k * 6 + 2, none⟩ = some (.bool y.sell) ∧ W.cell? ⟨go, k * 6 + 3, none⟩ = some (.int .i64 y.price) ∧ W.cell? ⟨go, k * 6 + 4, none⟩ = some (.int .i64 y.lots) ∧ W.cell? ⟨go, k * 6 + 5, none⟩ = some (.int .i64 y.seq) ∧ Below wr.heap.size wr W)
                (exact HSS.out _ (by (repeat' (first | (with_reducible exact Below.refl _ _) | (with_reducible refine below_drewN ?_ _) | (with_reducible refine Below.drew ?_) | (with_reducible refine Below.alloc ?_ ?_ _) | (with_reducible refine Below.setCell ?_ ?_ _) | (with_reducible refine Below.trans ?_ (Below.mono (by with_reducible assumption) ?_)) | omega | (simp only [World.size_drew] at *; omega) | (with_reducible refine Below.size (B := 0) ?_)))))
                (first | (go_at_call 32; refine (HAC.out _).mono ?_; rintro e w1 ⟨rfl, hb1⟩))
              have hbz : Below wo.heap.size wo w1 := HBW.out.trans ((⟨hb1.os, hb1.tape, hb1.output, hb1.size, hb1.block⟩ : Below wr.heap.size wr w1).mono HBW.out.size)
              have hend : ∀ y', O[k]? = some y' → aheadO y' x = false := fun y' hy' => by rw [HY.out] at hy'; obtain rfl := Option.some.inj hy'; exact HBB.out
              clear hb1 HSS c0' y0 y1 y2 y3 y4 y5 o0 o1 o2 o3 o4 o5
              have hwz : w.heap.size ≤ wo.heap.size := HLS.out.below.size
              have hzz : wo.heap.size ≤ w1.heap.size := hbz.size
              obtain ⟨X1, hX1, lX1⟩ := HLS.out.own.lies.upto Tryd.underlying27 Tryd.sizeOd .i64 (k : Int) k rfl (by rw [HO.out]; exact hk)
              obtain ⟨X2, hX2, lX2⟩ := HLS.out.own.lies.from Tryd.underlying27 Tryd.sizeOd .i64 (k : Int) k rfl (by rw [HO.out]; exact hk)
              rw [HO.out] at hX1 hX2 lX1 lX2
              obtain ⟨i0, hi9, hz0, hz1, hz2⟩ := info_parts Tryd.infoOd
              have A1 : Hid (OwnE encOd 40 (w1.alloc (.cells #[] 40)) w.heap.size (.slice (some ⟨w1.heap.size, 0, none⟩) 0 0) []) := Lib.hid (OwnE.none w1 (Nat.le_trans hwz hzz))
              have A2 : Hid (LiesE encOd (w1.alloc (.cells #[] 40)) X1 (O.take k)) := Lib.hid (lX1.onB (hbz.alloc hzz _))
              have A3 : Hid (([] : List Od).length + (O.take k).length ≤ maxLen) := Lib.hid (by simp only [List.length_take, List.length_nil, maxLen]; omega)
              have A4 : Hid ((([] : List Od).length + (O.take k).length) * 48 ≤ 140737488355328) := Lib.hid (by simp only [List.length_take, List.length_nil]; omega)
              have A5 : Hid (w.heap.size ≤ (w1.alloc (.cells #[] 40)).heap.size) := Lib.hid (by simp only [World.size_alloc]; omega)
              have B2 : Hid (∀ W : World, Below wo.heap.size wo W → LiesE encOd W X2 (O.drop k)) := Lib.hid fun W hb => lX2.onB hb
              have B3 : Hid (([] ++ O.take k).length + [x].length ≤ maxLen) := Lib.hid (by simp only [List.length_take, List.nil_append, List.length_singleton, maxLen]; omega)
              have B4 : Hid ((([] ++ O.take k).length + [x].length) * 48 ≤ 140737488355328) := Lib.hid (by simp only [List.length_take, List.nil_append, List.length_singleton]; omega)
              have C3 : Hid (([] ++ O.take k ++ [x]).length + (O.drop k).length ≤ maxLen) := Lib.hid (by simp only [List.length_take, List.length_drop, List.length_append, List.nil_append, List.length_singleton, maxLen]; omega)
              have C4 : Hid ((([] ++ O.take k ++ [x]).length + (O.drop k).length) * 48 ≤ 140737488355328) := Lib.hid (by simp only [List.length_take, List.length_drop, List.length_append, List.nil_append, List.length_singleton]; omega)
              have hik : (0 : Int) ≤ (k : Int) := by omega
              have hBZ := Lib.hid hbz
              clear lX1 lX2 hbz
              go_wp2_with (first
                | (at_builtin
                   refine wpList_append_E rfl _ _ 27 rfl i0 _ 48 Tryd.underlying27 hi9 hz0 hz1 hz2 rfl (by decide) rfl A1.out rfl A2.out A3.out A4.out A5.out ?_
                   intro v1 w4 own4 gr4 lo4
                   clear hX1 A1 A2 A3 A4 A5
                   have hb4 : Below wo.heap.size wo w4 := (hBZ.out.alloc hzz _).grown gr4 (by simp only [World.size_alloc]; omega) (fun k hk => by cases hk; exact hzz)
                   have LO4 : Hid (∀ k, v1.ownBlock = some k → wo.heap.size ≤ k) := Lib.hid fun k hk => by
                     rcases lo4 with h | h
                     · rw [h] at hk; cases hk; exact hzz
                     · rw [h] at hk; cases hk; simp only [World.size_alloc]; omega
                   have HB4 := Lib.hid hb4
                   have O4 := Lib.hid own4
                   have hz4 := hb4.size
                   have q4 := (hb4.cell (p := ⟨q, 0, none⟩) HLS.out.book.lt.1).trans HC.out
                   obtain ⟨A', c', c0', _, _, cx'⟩ := (HLS.out.book.on hb4).cells
                   obtain ⟨ad', rfl, ea', _, s0, s1, s2, s3, s4, s5⟩ := cx' i x HX.out
                   obtain ⟨rfl, rfl⟩ : ad' = ad ∧ c' = c := by have := c0'.symm.trans q4; simpa using this
                   clear hb4 own4 gr4 lo4 cx' c0')
                | (at_builtin
                   refine wpList_append_E rfl _ _ 27 rfl i0 _ 48 Tryd.underlying27 hi9 hz0 hz1 hz2 rfl (by decide) rfl (O4.out.on ((Below.refl _ _).alloc (Nat.le_refl _) _)) rfl (.inr ⟨⟨w4.heap.size, 0, none⟩, 1, rfl, Nat.le_refl _, cells_oneE (x := x) (heap_alloc_new w4 _)⟩) B3.out B4.out (Nat.le_trans hwz (Nat.le_trans hz4 (Nat.le_of_lt (by simp only [World.size_alloc]; omega)))) ?_
                   intro v2 w5 own5 gr5 lo5
                   clear B3 B4 s0 s1 s2 s3 s4 s5
                   have hb5 : Below wo.heap.size wo w5 := (HB4.out.alloc hz4 _).grown gr5 (by simp only [World.size_alloc]; omega) (fun k hk => LO4.out k hk)
                   have LO5 : Hid (∀ k, v2.ownBlock = some k → wo.heap.size ≤ k) := Lib.hid fun k hk => by
                     rcases lo5 with h | h
                     · exact LO4.out k (h.symm.trans hk)
                     · rw [h] at hk; cases hk; simp only [World.size_alloc]; omega
                   have HB5 := Lib.hid hb5
                   have O5 := Lib.hid own5
                   have hz5 := hb5.size
                   clear hb5 own5 gr5 lo5)
                | (at_builtin
                   refine wpList_append_E rfl _ _ 27 rfl i0 _ 48 Tryd.underlying27 hi9 hz0 hz1 hz2 rfl (by decide) rfl O5.out rfl (B2.out _ HB5.out) C3.out C4.out (Nat.le_trans hwz hz5) ?_
                   intro v3 w6 own6 gr6 lo6
                   have O6 := Lib.hid own6
                   have HB6 : Hid (Below wo.heap.size wo w6) := Lib.hid (HB5.out.grown gr6 hz5 (fun k hk => LO5.out k hk))
                   clear hX2 own6 gr6 lo6))
              go_roundw
              case rel => exact ⟨i + 1, by omega, by go_num, HLS.out.book.on HB6.out, by rw [listR13_snoc b.L sell i x HX.out, if_pos HS.out, HO.out, insO_at hk HAH.out hend]; have := O6.out; rw [List.nil_append, List.append_assoc] at this; exact this, HLS.out.below.trans (HB6.out.mono hwz)⟩
              case measure => simp [intOf]; omega
            · go_wp2_with fail
              go_region_held3 (fun W => W.cell? ⟨q, 0, none⟩ = some (.slice (some ad) b.L.length c) ∧ W.cell? ⟨R, i * 6, none⟩ = some (.int .i64 x.id) ∧ W.cell? ⟨R, i * 6 + 1, none⟩ = some (.int .i64 x.tn) ∧ W.cell? ⟨R, i * 6 + 2, none⟩ = some (.bool x.sell) ∧ W.cell? ⟨R, i * 6 + 3, none⟩ = some (.int .i64 x.price) ∧ W.cell? ⟨R, i * 6 + 4, none⟩ = some (.int .i64 x.lots) ∧ W.cell? ⟨R, i * 6 + 5, none⟩ = some (.int .i64 x.seq) ∧ W.cell? ⟨go, k * 6, none⟩ = some (.int .i64 y.id) ∧ W.cell? ⟨go, k * 6 + 1, none⟩ = some (.int .i64 y.tn) ∧ W.cell? ⟨go, k * 6 + 2, none⟩ = some (.bool y.sell) ∧ W.cell? ⟨go, k * 6 + 3, none⟩ = some (.int .i64 y.price) ∧ W.cell? ⟨go, k * 6 + 4, none⟩ = some (.int .i64 y.lots) ∧ W.cell? ⟨go, k * 6 + 5, none⟩ = some (.int .i64 y.seq) ∧ Below wr.heap.size wr W)
                (exact HSS.out _ (by (repeat' (first | (with_reducible exact Below.refl _ _) | (with_reducible refine below_drewN ?_ _) | (with_reducible refine Below.drew ?_) | (with_reducible refine Below.alloc ?_ ?_ _) | (with_reducible refine Below.setCell ?_ ?_ _) | (with_reducible refine Below.trans ?_ (Below.mono (by with_reducible assumption) ?_)) | omega | (simp only [World.size_drew] at *; omega) | (with_reducible refine Below.size (B := 0) ?_)))))
                (first | (go_at_call 32; refine (HAC.out _).mono ?_; rintro e w1 ⟨rfl, hb1⟩))
              have hbz : Below wo.heap.size wo w1 := HBW.out.trans ((⟨hb1.os, hb1.tape, hb1.output, hb1.size, hb1.block⟩ : Below wr.heap.size wr w1).mono HBW.out.size)
              have KZ := Lib.hid hbz
              clear hb1 hbz HSS
              go_wp2_with fail
              go_roundw
              case rel =>
                refine ⟨k + 1, by omega, by go_num, fun j y' hj hy' => ?_, KZ.out⟩
                rcases Nat.lt_succ_iff_lt_or_eq.1 hj with hj | rfl
                · exact HAH.out j y' hj hy'
                · rw [HY.out] at hy'; obtain rfl := Option.some.inj hy'; exact HBB.out
              case measure => simp [intOf]; omega
          · obtain rfl : k = O.length := by omega
            have hg : decide ((O.length : Int) < (O.length : Int)) = false := decide_eq_false (by omega)
            go_wp2_with fail
            go_quiet (fail)
            have hbz : Below wo.heap.size wo (wr.drewN nq) := below_drewN HBW.out nq
            generalize wr.drewN nq = Wz at hbz ⊢
            have hend : ∀ y, O[O.length]? = some y → aheadO y x = false := fun y hy => by rw [List.getElem?_eq_none (Nat.le_refl _)] at hy; cases hy
            have hwz : w.heap.size ≤ wo.heap.size := HLS.out.below.size
            have hzz : wo.heap.size ≤ Wz.heap.size := hbz.size
            obtain ⟨X1, hX1, lX1⟩ := HLS.out.own.lies.upto Tryd.underlying27 Tryd.sizeOd .i64 (O.length : Int) O.length rfl (by rw [HO.out]; exact hk)
            obtain ⟨X2, hX2, lX2⟩ := HLS.out.own.lies.from Tryd.underlying27 Tryd.sizeOd .i64 (O.length : Int) O.length rfl (by rw [HO.out]; exact hk)
            rw [HO.out] at hX1 hX2 lX1 lX2
            obtain ⟨i0, hi9, hz0, hz1, hz2⟩ := info_parts Tryd.infoOd
            have A1 : Hid (OwnE encOd 40 (Wz.alloc (.cells #[] 40)) w.heap.size (.slice (some ⟨Wz.heap.size, 0, none⟩) 0 0) []) := Lib.hid (OwnE.none Wz (Nat.le_trans hwz hzz))
            have A2 : Hid (LiesE encOd (Wz.alloc (.cells #[] 40)) X1 (O.take O.length)) := Lib.hid (lX1.onB (hbz.alloc hzz _))
            have A3 : Hid (([] : List Od).length + (O.take O.length).length ≤ maxLen) := Lib.hid (by simp only [List.length_take, List.length_nil, maxLen]; omega)
            have A4 : Hid ((([] : List Od).length + (O.take O.length).length) * 48 ≤ 140737488355328) := Lib.hid (by simp only [List.length_take, List.length_nil]; omega)
            have A5 : Hid (w.heap.size ≤ (Wz.alloc (.cells #[] 40)).heap.size) := Lib.hid (by simp only [World.size_alloc]; omega)
            have B2 : Hid (∀ W : World, Below wo.heap.size wo W → LiesE encOd W X2 (O.drop O.length)) := Lib.hid fun W hb => lX2.onB hb
            have B3 : Hid (([] ++ O.take O.length).length + [x].length ≤ maxLen) := Lib.hid (by simp only [List.length_take, List.nil_append, List.length_singleton, maxLen]; omega)
            have B4 : Hid ((([] ++ O.take O.length).length + [x].length) * 48 ≤ 140737488355328) := Lib.hid (by simp only [List.length_take, List.nil_append, List.length_singleton]; omega)
            have C3 : Hid (([] ++ O.take O.length ++ [x]).length + (O.drop O.length).length ≤ maxLen) := Lib.hid (by simp only [List.length_take, List.length_drop, List.length_append, List.nil_append, List.length_singleton, maxLen]; omega)
            have C4 : Hid ((([] ++ O.take O.length ++ [x]).length + (O.drop O.length).length) * 48 ≤ 140737488355328) := Lib.hid (by simp only [List.length_take, List.length_drop, List.length_append, List.nil_append, List.length_singleton]; omega)
            have hik : (0 : Int) ≤ (O.length : Int) := by omega
            have hBZ := Lib.hid hbz
            clear lX1 lX2 hbz
            go_wp2_with (first
              | (at_builtin
                 refine wpList_append_E rfl _ _ 27 rfl i0 _ 48 Tryd.underlying27 hi9 hz0 hz1 hz2 rfl (by decide) rfl A1.out rfl A2.out A3.out A4.out A5.out ?_
                 intro v1 w4 own4 gr4 lo4
                 clear hX1 A1 A2 A3 A4 A5
                 have hb4 : Below wo.heap.size wo w4 := (hBZ.out.alloc hzz _).grown gr4 (by simp only [World.size_alloc]; omega) (fun k hk => by cases hk; exact hzz)
                 have LO4 : Hid (∀ k, v1.ownBlock = some k → wo.heap.size ≤ k) := Lib.hid fun k hk => by
                   rcases lo4 with h | h
                   · rw [h] at hk; cases hk; exact hzz
                   · rw [h] at hk; cases hk; simp only [World.size_alloc]; omega
                 have HB4 := Lib.hid hb4
                 have O4 := Lib.hid own4
                 have hz4 := hb4.size
                 have q4 := (hb4.cell (p := ⟨q, 0, none⟩) HLS.out.book.lt.1).trans HC.out
                 obtain ⟨A', c', c0', _, _, cx'⟩ := (HLS.out.book.on hb4).cells
                 obtain ⟨ad', rfl, ea', _, s0, s1, s2, s3, s4, s5⟩ := cx' i x HX.out
                 obtain ⟨rfl, rfl⟩ : ad' = ad ∧ c' = c := by have := c0'.symm.trans q4; simpa using this
                 clear hb4 own4 gr4 lo4 cx' c0')
              | (at_builtin
                 refine wpList_append_E rfl _ _ 27 rfl i0 _ 48 Tryd.underlying27 hi9 hz0 hz1 hz2 rfl (by decide) rfl (O4.out.on ((Below.refl _ _).alloc (Nat.le_refl _) _)) rfl (.inr ⟨⟨w4.heap.size, 0, none⟩, 1, rfl, Nat.le_refl _, cells_oneE (x := x) (heap_alloc_new w4 _)⟩) B3.out B4.out (Nat.le_trans hwz (Nat.le_trans hz4 (Nat.le_of_lt (by simp only [World.size_alloc]; omega)))) ?_
                 intro v2 w5 own5 gr5 lo5
                 clear B3 B4 s0 s1 s2 s3 s4 s5
                 have hb5 : Below wo.heap.size wo w5 := (HB4.out.alloc hz4 _).grown gr5 (by simp only [World.size_alloc]; omega) (fun k hk => LO4.out k hk)
                 have LO5 : Hid (∀ k, v2.ownBlock = some k → wo.heap.size ≤ k) := Lib.hid fun k hk => by
                   rcases lo5 with h | h
                   · exact LO4.out k (h.symm.trans hk)
                   · rw [h] at hk; cases hk; simp only [World.size_alloc]; omega
                 have HB5 := Lib.hid hb5
                 have O5 := Lib.hid own5
                 have hz5 := hb5.size
                 clear hb5 own5 gr5 lo5)
              | (at_builtin
                 refine wpList_append_E rfl _ _ 27 rfl i0 _ 48 Tryd.underlying27 hi9 hz0 hz1 hz2 rfl (by decide) rfl O5.out rfl (B2.out _ HB5.out) C3.out C4.out (Nat.le_trans hwz hz5) ?_
                 intro v3 w6 own6 gr6 lo6
                 have O6 := Lib.hid own6
                 have HB6 : Hid (Below wo.heap.size wo w6) := Lib.hid (HB5.out.grown gr6 hz5 (fun k hk => LO5.out k hk))
                 clear hX2 own6 gr6 lo6))
            go_roundw
            case rel => exact ⟨i + 1, by omega, by go_num, HLS.out.book.on HB6.out, by rw [listR13_snoc b.L sell i x HX.out, if_pos HS.out, HO.out, insO_at hk HAH.out hend]; have := O6.out; rw [List.nil_append, List.append_assoc] at this; exact this, HLS.out.below.trans (HB6.out.mono hwz)⟩
            case measure => simp [intOf]; omega
      · have HS := Lib.hid hs
        have hs4 : x.sell = !sell := by
          generalize x.sell = t at hs
          cases t <;> cases sell <;> simp_all
        clear hs
        go_wp2_with fail
        go_roundw
        case rel => exact ⟨i + 1, by omega, by go_num, HLS.out.book, by rw [listR13_snoc b.L sell i x HX.out, if_neg HS.out]; exact HLS.out.own, HLS.out.below⟩
        case measure => simp [intOf]; omega
    · obtain rfl : i = b.L.length := by omega
      clear cx
      go_wp2_with fail
      go_ret
      refine ⟨_, rfl, ?_, HLS.out.below⟩
      have := HLS.out.own
      rw [List.take_length] at this
      exact this
end Go.Proofs.YtogmlbjbjgkdcaaDoor
