/- The reference's park of stage 15: Live whole. Conditions: the park is one that the calls have made. -/
import Derived.Test.YtaenpajmgenjhaaDoorPkL
namespace Go.Proofs.YtaenpajmgenjhaaDoor
open Go Go.RowKit

set_option maxRecDepth 100000 in
set_option maxHeartbeats 3200000 in
/-- What a cell's machines have together, all, or those that are up. -/
theorem rlive_c (u : Nat) (P : List Mc) (c : Int) (all : Bool) (w : World) (h : PkR w u P) (hG : GP P) :
    Calls Tryd.prog 18 #[.pointer (some ⟨u, 0, none⟩), .int .i64 c, .bool all] w fun e w' => e = .returned (.agg #[.int .i64 (liveP P c all).a, .int .i64 (liveP P c all).b, .int .i64 (liveP P c all).c, .int .i64 (liveP P c all).d]) ∧ Below w.heap.size w w' := by
  have HG := Lib.hid hG
  obtain ⟨W1, hW1⟩ : ∃ W1, (w.alloc (.cells #[.int .i64 0, .int .i64 0, .int .i64 0, .int .i64 0] 28)).alloc (.cells #[.int .i64 0, .int .i64 0, .int .i64 0, .int .i64 0] 28) = W1 := ⟨_, rfl⟩
  obtain ⟨g6, hg6⟩ : ∃ g6, w.heap.size = g6 := ⟨_, rfl⟩
  obtain ⟨g7, hg7⟩ : ∃ g7, g6 + 1 = g7 := ⟨_, rfl⟩
  have hb1 : Below w.heap.size w W1 := by rw [← hW1]; exact ((Below.refl _ _).alloc (Nat.le_refl _) _).alloc (by simp) _
  have H1 := Lib.hid (h.on hb1)
  have hu := h.lt
  have H6 : Hid (Vk W1 g6 ⟨0, 0, 0, 0⟩) := Lib.hid (by rw [← hW1, ← hg6]; exact (Below.heap_alloc _ _ _ (by simp)).trans (heap_alloc_new w _))
  have H7 : Hid (Vk W1 g7 ⟨0, 0, 0, 0⟩) := Lib.hid (by
    have := heap_alloc_new (w.alloc (.cells #[.int .i64 0, .int .i64 0, .int .i64 0, .int .i64 0] 28)) (.cells #[.int .i64 0, .int .i64 0, .int .i64 0, .int .i64 0] 28)
    rw [World.size_alloc, hW1, hg6, hg7] at this
    exact this)
  have HN : Hid (u < g6 ∧ g6 < g7 ∧ w.heap.size = g6) := Lib.hid (by omega)
  have HB1 := Lib.hid hb1
  have E1 := Lib.hid hW1
  have E6 := Lib.hid hg6
  have E7 := Lib.hid hg7
  clear h hG hb1 hu hW1 hg6 hg7
  go_enter Tryd.func18, Tryd.ntmps18
  go_upto_block 0 with fail
  rw [E1.out, E6.out, E7.out]
  clear E1 E6 E7
  go_cut [] (fun wx => Vk wx g7 (liveP P c all) ∧ Vk wx g6 ⟨0, 0, 0, 0⟩ ∧ Below w.heap.size w wx)
  case first =>
    go_wp2_with fail
    go_loopw [8] (fun v W => ∃ k : Nat, 1 ≤ k ∧ k ≤ 1000 ∧ v = .int .i64 (k : Int) ∧ Vk W g7 (liveP (lowP P (k : Int)) c all) ∧ Chg g7 g7 W1 W) (fun v _ => 1000 - (intOf v).toNat)
    case atStart => exact ⟨1, Nat.le_refl _, by omega, rfl, by rw [show ((1 : Nat) : Int) = 1 from rfl, low_one HG.out]; exact H7.out, Chg.refl _ _ _⟩
    case round =>
      obtain ⟨k, hk1, hk, rfl, hV, hC⟩ := hrel
      have HV := Lib.hid hV
      have HC := Lib.hid hC
      have HK := Lib.hid (H1.out.kept hC (by have := HN.out; omega) (by have := HN.out; omega))
      clear hV hC
      by_cases hlt : k < 1000
      · obtain ⟨c0, c1, c2, c3, c4, c5, cl, cf⟩ := HK.out.cells (i := k) hlt
        have HLS := Lib.hid (live_slot (c := c) (all := all) HG.out (k : Int))
        have HBD := Lib.hid (live_bd HG.out (k : Int) c all)
        have HGV : Hid (goodV (slotP P (k : Int)).has = true) := Lib.hid (by
          cases ha : atP P (k : Int) with
          | none => rw [slot_none ha]; rfl
          | some m => rw [slot_some ha]; exact HG.out.good m ((at_some HG.out.ord).1 ha).1)
        have hi0 : (0 : Int) ≤ (k : Int) := by omega
        have hi1 : (k : Int) < 1000 := by omega
        obtain ⟨b1, hb1⟩ : ∃ b, ((slotP P (k : Int)).cell == c) = b := ⟨_, rfl⟩
        obtain ⟨b2, hb2⟩ : ∃ b, decide (0 < c) = b := ⟨_, rfl⟩
        obtain ⟨b4, hb4⟩ : ∃ b, ((slotP P (k : Int)).st == 0) = b := ⟨_, rfl⟩
        rw [hb1, hb2, hb4] at HLS
        have HLT := Lib.hid hlt
        clear c1 c2 c3 c4 hlt
        go_upto_region 5 with fail
        go_cut [38] (fun v wx => v = .bool ((b1 && b2) && (all || b4)) ∧ wx = wr)
        case first =>
          cases b1 <;> cases b2 <;> cases all <;> cases b4
          all_goals
            go_wp2_with fail
            go_meet
            exact ⟨rfl, rfl⟩
        case rest =>
        obtain ⟨rfl, rfl⟩ := hcut
        clear hb1 hb2 hb4 c0 c5
        obtain ⟨sel, hsel⟩ : ∃ sel, ((b1 && b2) && (all || b4)) = sel := ⟨_, rfl⟩
        rw [hsel] at HLS ⊢
        clear hsel
        cases sel with
        | false =>
          go_wp2_with fail
          go_roundw
          case rel => exact ⟨k + 1, by omega, by have := HLT.out; omega, by go_num, by rw [show ((k + 1 : Nat) : Int) = (k : Int) + 1 by omega, HLS.out]; exact HV.out, HC.out⟩
          case measure => simp [intOf]; have := HLT.out; omega
        | true =>
          go_upto_block 2 with fail
          refine wp_blk (bodyOf Tryd.f18 2) (by kernel_rfl) ?_
          refine rlive_in _ _ _ _ _ _ _ _ _ _ _ _ _ _ _ _ _ _ _ _ _ _ _ _ _ _ _ _ _ _ _ _ _ _ _ _ _ _ _ _ _ _ _ _ _ _ _ _ _ _ _ _ _ _ u g7 k P (liveP (lowP P (k : Int)) c all) _ wc HK.out HLT.out HV.out (by have := HN.out; omega) HBD.out HGV.out ?_
          intro _ _ _ _ _ _ _ _ _ _ _ _ _ _ _ _ _ _ _ w6 k1 k2
          have K1 := Lib.hid k1
          have K2 := Lib.hid (HC.out.trans k2 (.inl rfl))
          clear k1 k2
          go_wp2_with fail
          go_roundw
          case rel => exact ⟨k + 1, by omega, by have := HLT.out; omega, by go_num, by rw [show ((k + 1 : Nat) : Int) = (k : Int) + 1 by omega, HLS.out]; exact K1.out, K2.out⟩
          case measure => simp [intOf]; have := HLT.out; omega
      · obtain rfl : k = 1000 := by omega
        have HE : Hid (Vk wr g7 (liveP P c all)) := Lib.hid (by have := HV.out; rwa [show ((1000 : Nat) : Int) = 1000 from rfl, low_all HG.out] at this)
        have HF : Hid (Vk wr g6 ⟨0, 0, 0, 0⟩ ∧ Below w.heap.size w wr) := Lib.hid ⟨HC.out.row H6.out (by have := HN.out; omega) (by have := HN.out; omega), HB1.out.trans (HC.out.below (by have := HN.out; omega) (by have := HN.out; omega) HB1.out.size)⟩
        go_wp2_with fail
        go_meet
        exact ⟨HE.out, HF.out.1, HF.out.2⟩
  case rest =>
  obtain ⟨h7, h6, hb⟩ := hcut
  have HB := Lib.hid hb
  have HV6 := Lib.hid h6
  obtain ⟨v0, v1, v2, v3, vl, vf⟩ := h7.cells
  obtain ⟨z0, z1, z2, z3, zl, zf⟩ := h6.cells
  obtain ⟨L, hL⟩ : ∃ L, liveP P c all = L := ⟨_, rfl⟩
  rw [hL] at v0 v1 v2 v3
  have HLQ := Lib.hid hL
  clear hL
  have HL6 : Hid (w.heap.size ≤ g6) := Lib.hid (by have := HN.out; omega)
  clear h7 h6 hb
  go_wp2_with fail
  rw [HLQ.out]
  have hb6 := HB.out
  have hl6 := HL6.out
  have s0 := heap_setCell_same wc g6 0 _ _ (.int .i64 L.a) HV6.out
  have s1 := heap_setCell_same _ g6 1 _ _ (.int .i64 L.b) s0
  have s2 := heap_setCell_same _ g6 2 _ _ (.int .i64 L.c) s1
  have s3 : Vk (((wc.setCell ⟨g6, 0, none⟩ (.int .i64 L.a)).setCell ⟨g6, 1, none⟩ (.int .i64 L.b)).setCell ⟨g6, 2, none⟩ (.int .i64 L.c) |>.setCell ⟨g6, 3, none⟩ (.int .i64 L.d)) g6 L := heap_setCell_same _ g6 3 _ _ (.int .i64 L.d) s2
  have hb3 : Below w.heap.size w (((wc.setCell ⟨g6, 0, none⟩ (.int .i64 L.a)).setCell ⟨g6, 1, none⟩ (.int .i64 L.b)).setCell ⟨g6, 2, none⟩ (.int .i64 L.c) |>.setCell ⟨g6, 3, none⟩ (.int .i64 L.d)) := (((hb6.setCell hl6 _).setCell hl6 _).setCell hl6 _).setCell hl6 _
  clear s0 s1 s2
  generalize (((wc.setCell ⟨g6, 0, none⟩ (.int .i64 L.a)).setCell ⟨g6, 1, none⟩ (.int .i64 L.b)).setCell ⟨g6, 2, none⟩ (.int .i64 L.c) |>.setCell ⟨g6, 3, none⟩ (.int .i64 L.d)) = W3 at *
  obtain ⟨p0, p1, p2, p3, pl, pf⟩ := s3.cells
  exact bodyPost_ret (v := .agg #[.int .i64 L.a, .int .i64 L.b, .int .i64 L.c, .int .i64 L.d]) (by simp [results, Tryd.results18, go_sem, p0, p1, p2, p3]) rfl ⟨rfl, hb3⟩
end Go.Proofs.YtaenpajmgenjhaaDoor
