/- Contracts of the law package's own functions: a block of one byte; what is known awake. Condition: the sentinels lie as the program's text lays them. -/
import Derived.Test.YthlpfedcmiiibaaDoorBlkW
import Derived.Test.YthlpfedcmiiibaaDoorKind
namespace Go.Proofs.YthlpfedcmiiibaaDoor
open Go Go.RowKit

/-- A block of a byte. -/
def fullB (b : UInt8) : List UInt8 := List.replicate 64 b
theorem fullB_len (b : UInt8) : (fullB b).length = 64 := by simp [fullB]
def OfRel (w : World) (b : UInt8) (u : Value) (wr : World) : Prop :=
  ∃ i : Nat, u = .int .i64 (i : Int) ∧ i ≤ 64 ∧ wr.heap[w.heap.size]? = some (.cells (byteVs (List.replicate i b ++ List.replicate (64 - i) 0)).toArray 5 (0, 0)) ∧ Below w.heap.size w wr

theorem rep_set (b : UInt8) (i : Nat) (hi : i < 64) : (byteVs (List.replicate i b ++ List.replicate (64 - i) 0)).toArray.setIfInBounds i (.int .u8 (b.toNat : Int)) = (byteVs (List.replicate (i + 1) b ++ List.replicate (64 - (i + 1)) 0)).toArray := by
  rw [List.setIfInBounds_toArray]
  congr 1
  apply List.ext_getElem?
  intro j
  rw [List.getElem?_set]
  simp only [byteVs, List.map_append, List.map_replicate]
  by_cases h1 : j < i
  · rw [if_neg (by omega), List.getElem?_append_left (by simpa using h1), List.getElem?_append_left (by simp; omega)]
    rw [List.getElem?_replicate, List.getElem?_replicate, if_pos h1, if_pos (by omega)]
  · by_cases h2 : i = j
    · subst h2
      rw [if_pos rfl, if_pos (by simp; omega), List.getElem?_append_left (by simp)]
      simp
    · rw [if_neg h2, List.getElem?_append_right (by simpa using h1), List.getElem?_append_right (by simp; omega)]
      simp [List.getElem?_replicate]
      by_cases h3 : j < 64
      · rw [if_pos (by omega), if_pos (by omega)]
      · rw [if_neg (by omega), if_neg (by omega)]

theorem rep_lt (b : UInt8) (n m j : Nat) (h : j < n) : (byteVs (List.replicate n b ++ List.replicate m 0)).toArray[j]? = some (.int .u8 (b.toNat : Int)) := by
  simp only [byteVs, List.map_append, List.map_replicate, List.getElem?_toArray]
  rw [List.getElem?_append_left (by simpa using h), List.getElem?_replicate, if_pos h]
theorem rep_at (b : UInt8) (n m : Nat) (h : 0 < m) : (byteVs (List.replicate n b ++ List.replicate m 0)).toArray[n]? = some (.int .u8 0) := by
  simp only [byteVs, List.map_append, List.map_replicate, List.getElem?_toArray]
  rw [List.getElem?_append_right (by simp), List.getElem?_replicate, if_pos (by simpa using h)]
  rfl

set_option maxHeartbeats 1600000 in
set_option maxRecDepth 100000 in
theorem full_c (b : UInt8) (w : World) :
    Calls Tryd.prog 17 #[.int .u8 (b.toNat : Int)] w fun e w' => e = .returned (.string (strB (fullB b))) ∧ Below w.heap.size w w' := by
  have hmk : (Instr.makeSlice 45 (.int .i64 64) (.int .i64 64)).run Tryd.prog w = .ok (.slice (some ⟨w.heap.size, 0, none⟩) 64 64) (w.alloc (.cells (madeCells #[.int .u8 0] 64) 5)) :=
    run_make_row' _ _ _ 1 Tryd.underlying45 Tryd.infoB rfl .i64 .i64 64 (by omega) (by omega) w
  have hst : OfRel w b (.int .i64 0) (w.alloc (.cells (madeCells #[.int .u8 0] 64) 5)) := by
    refine ⟨0, rfl, by omega, ?_, (Below.refl _ _).alloc (Nat.le_refl _) _⟩
    rw [heap_alloc_new]
    congr 2
    kernel_rfl
  have HST := Lib.hid hst; clear hst
  go_enter Tryd.func17, Tryd.ntmps17
  go_wp2_with fail
  go_loopw [4] (fun u wr => OfRel w b u wr) (fun u _ => 64 - (intOf u).toNat)
  case atStart => exact HST.out
  case round =>
    obtain ⟨i, rfl, hi, hh, hb⟩ := hrel
    by_cases h : i < 64
    · have hi0 : (0 : Int) ≤ (i : Int) := by omega
      have hi1 : (i : Int) < 64 := by omega
      have hc : wr.cell? ⟨w.heap.size, i, none⟩ = some (.int .u8 0) := by
        rw [cell_of_heap hh i]; exact rep_at b i _ (by omega)
      have hf := frozen_of_heap hh i
      have hn : Hid (OfRel w b (.int .i64 ((i : Int) + 1)) (wr.setCell ⟨w.heap.size, i, none⟩ (.int .u8 (b.toNat : Int)))) := Lib.hid ⟨i + 1, by go_num, by omega, by rw [set_cells hh, rep_set b i h], hb.setCell (Nat.le_refl _) _⟩
      clear hh HST hmk
      go_wp2_with fail
      go_roundw
      case rel => exact hn.out
      case measure => simp [intOf]; omega
    · obtain rfl : i = 64 := by omega
      have hcv : (convert 45 9 (.slice (some ⟨w.heap.size, 0, none⟩) 64 64)).run Tryd.prog wr = .ok (.string (strB (fullB b))) wr := by
        have h1 := conv_row wr w.heap.size 0 64 (fullB b) (fun j hj => by
          rw [Nat.zero_add, cell_of_heap hh j]
          have hj64 : j < 64 := by rw [fullB_len] at hj; exact hj
          rw [rep_lt b 64 _ j hj64]
          have e : (fullB b)[j]'hj = b := List.getElem_replicate _
          exact congrArg (fun x : UInt8 => some (Value.int .u8 (x.toNat : Int))) e.symm)
        rw [fullB_len] at h1
        exact h1
      clear hh HST hmk
      go_wp2_with fail
      go_ret
      exact ⟨rfl, hb⟩

/-! A nil disk. -/
set_option maxRecDepth 100000 in
theorem nil_read (s : Nat → Addr) (i : Int) (w : World) (hs : Sent s w) : Calls Tryd.prog 10 #[.pointer none, .int .i64 i] w fun e w' => e = .returned (.tuple #[.string (strB []), errV s 2]) ∧ ∃ nd, w' = w.drewN nd := by
  have gA := hs.cell 1 (by omega)
  simp only [gnum, List.getD_cons_zero, List.getD_cons_succ] at gA
  go_enter Tryd.func10, Tryd.ntmps10
  go_wp2_with fail
  go_region
  all_goals go_wp2_with fail
  all_goals go_ret2
  all_goals exact ⟨rfl, _, rfl⟩
set_option maxRecDepth 100000 in
theorem nil_write (s : Nat → Addr) (i : Int) (t : ByteArray) (w : World) (hs : Sent s w) : Calls Tryd.prog 16 #[.pointer none, .int .i64 i, .string t] w fun e w' => e = .returned (errV s 2) ∧ w = w' := by
  have gA := hs.cell 1 (by omega)
  simp only [gnum, List.getD_cons_zero, List.getD_cons_succ] at gA
  go_enter Tryd.func16, Tryd.ntmps16
  go_wp2_with fail
  go_ret
  exact ⟨rfl, rfl⟩
theorem nil_len (w : World) : Calls Tryd.prog 23 #[.pointer none] w fun e w' => e = .returned (.int .i64 0) ∧ w = w' := by
  go_enter Tryd.func23, Tryd.ntmps23
  go_wp2
  go_ret
  exact ⟨rfl, rfl⟩
theorem nil_writes (w : World) : Calls Tryd.prog 20 #[.pointer none] w fun e w' => e = .returned (.int .i64 0) ∧ w = w' := by
  go_enter Tryd.func20, Tryd.ntmps20
  go_wp2
  go_ret
  exact ⟨rfl, rfl⟩
theorem nil_image (w : World) : Calls Tryd.prog 21 #[.pointer none] w fun e w' => e = .returned (.string (strB [])) ∧ w = w' := by
  go_enter Tryd.func21, Tryd.ntmps21
  go_wp2
  go_ret
  exact ⟨rfl, rfl⟩
theorem nil_ison (w : World) : Calls Tryd.prog 19 #[.pointer none] w fun e w' => e = .returned (.bool false) ∧ w = w' := by
  go_enter Tryd.func19, Tryd.ntmps19
  go_wp2
  go_ret
  exact ⟨rfl, rfl⟩
theorem nil_fuse (n t : Int) (w : World) : Calls Tryd.prog 12 #[.pointer none, .int .i64 n, .int .i64 t] w fun e w' => e = .returned (.tuple #[]) ∧ w = w' := by
  go_enter Tryd.func12, Tryd.ntmps12
  go_wp2_with fail
  refine (nil_ison _).mono ?_
  rintro e w1 ⟨rfl, rfl⟩
  go_wp2_with fail
  (try simp only [Exit.inBlock, Exit.then])
  refine bodyPost_ret (results_none rfl _ _ _) rfl ?_
  exact ⟨rfl, rfl⟩
theorem nil_come (w : World) : Calls Tryd.prog 14 #[.pointer none] w fun e w' => e = .returned (.tuple #[]) ∧ w = w' := by
  go_enter Tryd.func14, Tryd.ntmps14
  go_wp2_with fail
  (try simp only [Exit.inBlock, Exit.then])
  refine bodyPost_ret (results_none rfl _ _ _) rfl ?_
  exact ⟨rfl, rfl⟩
end Go.Proofs.YthlpfedcmiiibaaDoor
