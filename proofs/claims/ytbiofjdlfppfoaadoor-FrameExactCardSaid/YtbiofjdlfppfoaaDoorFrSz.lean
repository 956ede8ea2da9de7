/- The walk of the law FrameSizes: whatever the arguments, it returns true. Condition: the sentinels lie as the program's text lays them. -/
import Derived.Test.YtbiofjdlfppfoaaDoorFrL
namespace Go.Proofs.YtbiofjdlfppfoaaDoor
open Go Go.RowKit

theorem mod_pos (i : Int) (k : Nat) (h0 : 0 < k) (h1 : k ≤ 1000000) : ∃ m : Nat, m < k ∧ wrap64 ((IntKind.u64.wrap i).tmod (k : Int)) = (m : Int) := by
  have hu : 0 ≤ IntKind.u64.wrap i := by rw [IntKind.wrap_u64]; omega
  have hk : (0 : Int) < (k : Int) := by omega
  have e : (IntKind.u64.wrap i).tmod (k : Int) = IntKind.u64.wrap i % (k : Int) := Int.tmod_eq_emod_of_nonneg hu
  have hlo := Int.emod_nonneg (IntKind.u64.wrap i) (Int.ne_of_gt hk)
  have hhi := Int.emod_lt_of_pos (IntKind.u64.wrap i) hk
  refine ⟨(IntKind.u64.wrap i % (k : Int)).toNat, by omega, ?_⟩
  rw [e]
  have hw : wrap64 (IntKind.u64.wrap i % (k : Int)) = IntKind.u64.wrap i % (k : Int) := by
    generalize IntKind.u64.wrap i % (k : Int) = z at hlo hhi
    unfold wrap64; omega
  rw [hw]; omega

/-- A row of bytes in a block of its own. -/
def BytV (w : World) (g : Nat) (bs : List UInt8) : Prop := w.heap[g]? = some (.cells (byteVs bs).toArray 5 (0, 0))
theorem BytV.below {w w' : World} {g B : Nat} {bs : List UInt8} (h : BytV w g bs) (hb : Below B w w') (hg : g < B) : BytV w' g bs := (hb.block g hg).trans h
theorem BytV.lt {w : World} {g : Nat} {bs : List UInt8} (h : BytV w g bs) : g < w.heap.size := (Array.getElem?_eq_some_iff.1 h).1
theorem BytV.conv {w : World} {g : Nat} {bs : List UInt8} (h : BytV w g bs) (hl : bs.length ≤ 1000000) : (convert 40 9 (.slice (some ⟨g, 0, none⟩) bs.length bs.length)).run Tryd.prog w = .ok (.string (bst bs)) w :=
  conv_own w 0 bs.length bs _ ⟨by rw [byteVs_len, Nat.mul_one], .inr ⟨g, bs.length, _, rfl, Nat.zero_le _, h, Nat.le_refl _, by unfold maxLen; omega, by simp [byteVs], by rw [Nat.mul_one, List.take_of_length_le (by simp [byteVs])]⟩⟩
theorem BytV.set {w : World} {g j : Nat} {bs : List UInt8} (h : BytV w g bs) (b : UInt8) : BytV (w.setCell ⟨g, j, none⟩ (.int .u8 (b.toNat : Int))) g (bs.set j b) := by
  have := heap_setCell_same w g j _ _ (.int .u8 (b.toNat : Int)) h
  rw [List.setIfInBounds_toArray] at this
  unfold BytV
  rw [this]
  unfold byteVs
  rw [List.map_set]
theorem BytV.cell {w : World} {g j : Nat} {bs : List UInt8} {b : UInt8} (h : BytV w g bs) (hj : bs[j]? = some b) : w.cell? ⟨g, j, none⟩ = some (.int .u8 (b.toNat : Int)) := by
  rw [cell_of_heap h j]; simp [byteVs, hj]
/-- The loop's row. -/
def fillB (b : UInt8) (k j : Nat) : List UInt8 := List.replicate j b ++ List.replicate (k - j) 0
theorem fillB_len (b : UInt8) (k j : Nat) (h : j ≤ k) : (fillB b k j).length = k := by unfold fillB; simp; omega
theorem fillB_get (b : UInt8) (k j : Nat) (h : j < k) : (fillB b k j)[j]? = some 0 := by
  unfold fillB; rw [List.getElem?_append_right (by simp), List.getElem?_replicate, if_pos (by simp; omega)]
theorem fillB_set (b : UInt8) (k j : Nat) (h : j < k) : (fillB b k j).set j b = fillB b k (j + 1) := by
  unfold fillB
  rw [List.set_append_right _ _ (by simp)]
  simp only [List.length_replicate, Nat.sub_self]
  rw [show k - j = (k - (j + 1)) + 1 by omega, List.replicate_succ, List.set_cons_zero, List.replicate_succ']
  simp
theorem fillB_all (b : UInt8) (k : Nat) : fillB b k k = List.replicate k b := by unfold fillB; simp
/-- What a round of the loop begins with. -/
def SRel (w : World) (g k : Nat) (b : UInt8) (i : Value) (wr : World) : Prop := ∃ j : Nat, i = .int .i64 j ∧ j ≤ k ∧ BytV wr g (fillB b k j) ∧ Below w.heap.size w wr

set_option maxHeartbeats 3200000 in
set_option maxRecDepth 100000 in
theorem sizes_any (s : Nat → Addr) (n : Int) (b : UInt8) (w : World) (hs : Sent s w) :
    Calls Tryd.prog 6 #[.int .i64 n, .int .u8 (b.toNat : Int)] w fun e w' => e = .returned (.bool true) ∧ Below w.heap.size w w' := by
  obtain ⟨k, hk, e⟩ := mod_pos n 6100 (by omega) (by omega)
  have he : wrap64 ((IntKind.u64.wrap n).tmod 6100) = (k : Int) := e
  clear e
  go_enter Tryd.func6, Tryd.ntmps6
  go_wp2_with fail
  refine (awake_c s _ hs).mono ?_
  rintro e w1 ⟨rfl, b1⟩
  have hmk : (Instr.makeSlice 40 (.int .i64 (wrap64 ((IntKind.u64.wrap n).tmod 6100))) (.int .i64 (wrap64 ((IntKind.u64.wrap n).tmod 6100)))).run Tryd.prog w1 = .ok (.slice (some ⟨w1.heap.size, 0, none⟩) k k) (w1.alloc (.cells (madeCells #[.int .u8 0] k) 5)) := by
    rw [he]
    exact run_make_row' _ _ _ 1 Tryd.underlying40 Tryd.infoB rfl .i64 .i64 k (by omega) (by omega) w1
  have hst : SRel w w1.heap.size k b (.int .i64 0) (w1.alloc (.cells (madeCells #[.int .u8 0] k) 5)) := by
    refine ⟨0, rfl, Nat.zero_le _, ?_, b1.alloc b1.size _⟩
    show (w1.alloc _).heap[w1.heap.size]? = _
    rw [heap_alloc_new]
    unfold fillB byteVs
    rw [List.replicate_zero, List.nil_append, Nat.sub_zero, List.map_replicate, ← toList_madeCells_one]
    rfl
  have HST := Lib.hid hst; clear hst
  have Z1 := Lib.hid b1.size; clear b1
  have HE0 := Lib.hid he; clear he
  go_wp2_with fail
  rw [HE0.out]
  clear hmk HE0
  go_loopw [7] (fun i wr => SRel w w1.heap.size k b i wr) (fun i _ => k - (intOf i).toNat)
  case atStart => exact HST.out
  case round =>
    obtain ⟨j, rfl, hj, hr, hb⟩ := hrel
    clear HST
    by_cases hjk : j < k
    · have ji : (j : Int) < (k : Int) := by omega
      have c0 := hr.cell (fillB_get b k j hjk)
      have f0 := frozen_of_heap hr j
      have HR : Hid (SRel w w1.heap.size k b (.int .i64 ((j : Int) + 1)) (wr.setCell ⟨w1.heap.size, j, none⟩ (.int .u8 (b.toNat : Int)))) := Lib.hid
        ⟨j + 1, ret_v (by omega), by omega, by rw [← fillB_set b k j hjk]; exact hr.set b, hb.setCell Z1.out _⟩
      clear hr hb
      go_wp2_with fail
      go_roundw
      case rel => exact HR.out
      case measure => simp [intOf]; omega
    · obtain rfl : j = k := by omega
      rw [fillB_all] at hr
      obtain ⟨D, hD⟩ : ∃ D, bst (List.replicate j b) = D := ⟨_, rfl⟩
      have hDs : D.size = j := by rw [← hD, bst_size, List.length_replicate]
      have hDl : D.data.toList = List.replicate j b := by rw [← hD]; rfl
      have HC : Hid (∀ W, Below wr.heap.size wr W → (convert 40 9 (.slice (some ⟨w1.heap.size, 0, none⟩) j j)).run Tryd.prog W = .ok (.string D) W) := Lib.hid fun W hW => by
        have h := (hr.below hW hr.lt).conv (by simp; omega)
        rw [List.length_replicate, hD] at h
        exact h
      have c0 := HC.out wr (Below.refl _ _)
      have hsr := hs.below hb (Nat.le_refl _)
      have HB := Lib.hid hb
      clear hr hb
      by_cases h6 : 6000 < j
      · have HE := Lib.hid (blocks_bad s 2147483647 D wr hsr (by omega) (by omega))
        go_wp2_with fail
        refine (HE.out).mono ?_
        rintro e w5 ⟨rfl, b5⟩
        have HB5 : Hid (Below w.heap.size w w5) := Lib.hid (HB.out.trans (b5.mono HB.out.size))
        have hs5 : Sent s w5 := hs.below HB5.out (Nat.le_refl _)
        have hg5 := hs5.cell 0 (by omega)
        simp only [gnum, List.getD_cons_zero] at hg5
        have j6 : (6000 : Int) < (j : Int) := by omega
        clear b5
        go_wp2_with fail
        refine (is_sent s 0 0 _ hs5 (by omega) (by omega)).mono ?_
        rintro e w4 ⟨rfl, rfl⟩
        go_wp2_with fail
        go_ret
        exact ⟨rfl, HB5.out⟩
      · have he := blocks_ok 2147483647 D wr (by omega) (by omega) (by omega)
        obtain ⟨N, hN⟩ : ∃ N, nblk D.size = N := ⟨_, rfl⟩
        have hN1 : N ≤ 108 := by rw [← hN]; unfold nblk; omega
        have hS := sizeS_c D
        rw [hN] at he hS
        have HE := Lib.hid he
        have HSz := Lib.hid hS
        clear he hS
        have j6 : ¬ (6000 : Int) < (j : Int) := by omega
        go_wp2_with fail
        refine (HE.out).mono ?_
        rintro e w5 ⟨⟨g, rfl, hr5, hg5⟩, b5⟩
        have HB5 : Hid (Below w.heap.size w w5) := Lib.hid (HB.out.trans (b5.mono HB.out.size))
        have c5 := HC.out w5 b5
        have hs5 : Sent s w5 := hs.below HB5.out (Nat.le_refl _)
        have hread := read_c s w5.heap.size N (some ⟨g, 0, none⟩) ((framesF 2147483647 D.data.toList).map bst) w5 hs5 (by rw [List.length_map, framesF_len, size_len, hN]; omega) (by rw [List.length_map, framesF_len, size_len, hN]; exact Nat.le_refl _) (hr5.srow hr5.lt) (Nat.le_refl _)
        have hrf := read_frames 2147483647 D.data.toList [] (by omega) (by omega) (by rw [size_len]; omega)
        rw [List.append_nil, size_len] at hrf
        rw [rows_bst, hrf, List.length_map, framesF_len, size_len, hN] at hread
        have HR := Lib.hid hread
        have HN := Lib.hid hN
        have B5 := Lib.hid b5
        clear hrf hread hr5 b5 hN
        go_wp2_with fail
        refine (HR.out).mono ?_
        rintro e w6 ⟨h6, b6⟩
        obtain rfl := h6
        have c6 := HC.out w6 (B5.out.trans (b6.mono B5.out.size))
        have HB6 : Hid (Below w.heap.size w w6) := Lib.hid (HB5.out.trans (b6.mono HB5.out.size))
        rw [← bst_of D]
        clear b6
        go_wp2_with fail
        refine (HSz.out _ (by omega)).mono ?_
        rintro e w4 ⟨rfl, rfl⟩
        go_wp2_with fail
        go_ret
        exact ⟨rfl, HB6.out⟩
end Go.Proofs.YtbiofjdlfppfoaaDoor
