/- The law package's own functions: at which block an error tells, and the document's examples. Conditions: the sentinels and the type's variable lie as the program's text lays them. -/
import Derived.Test.YtbiofjdlfppfoaaDoorFrR
import Derived.StillTailTactics
namespace Go.Proofs.YtbiofjdlfppfoaaDoor
open Go Go.RowKit

/-- The first block of the frame of "a" with the number 7. -/
def awB : List UInt8 := blkF 7 1 (payF [97]) 0
theorem awB_len : awB.length = 64 := by decide +kernel
theorem awB_head : awB.take 4 = [1, 0, 0, 0] := by decide +kernel
theorem awB_tail : awB.drop 56 = [7, 0, 0, 0, 0, 0, 1, 0] := by decide +kernel
theorem aw_frames : framesF 7 [97] = [awB] := rfl
theorem toList_is (s : ByteArray) : s.toList = s.data.toList := ByteArray.toList_eq s

set_option maxHeartbeats 3200000 in
set_option maxRecDepth 100000 in
/-- The examples of the document stand. -/
theorem awake_c (s : Nat → Addr) (w : World) (hs : Sent s w) :
    Calls Tryd.prog 7 #[] w fun e w' => e = .returned (.bool true) ∧ Below w.heap.size w w' := by
  obtain ⟨S, hS⟩ : ∃ S, bst awB = S := ⟨_, rfl⟩
  have hsz : S.size = 64 := by rw [← hS, bst_size, awB_len]
  have e4 : (S.extract 0 4).toList = [1, 0, 0, 0] := by rw [toList_is, cut_list, ← hS, bst_list, List.drop_zero]; exact awB_head
  have e8 : (S.extract 56 64).toList = [7, 0, 0, 0, 0, 0, 1, 0] := by rw [toList_is, cut_list, ← hS, bst_list, awB_tail]; rfl
  have e1 : (bst [97]).toList = [97] := by rw [toList_is]; rfl
  have hread : readF (rows [S]) = .ok ([97], 7, 1) := by
    have h := read_frames 7 [97] [] (by omega) (by omega) (by decide)
    rw [List.append_nil, aw_frames] at h
    rw [show rows [S] = [awB] by rw [← hS]; rfl]
    exact h
  have HB : Hid (∀ W, _) := Lib.hid fun W => blocks_ok 7 ⟨#[97]⟩ W (by omega) (by omega) (by decide)
  have HE : Hid (∀ W, Sent s W → _) := Lib.hid fun W hW => blocks_bad s 0 ⟨#[97]⟩ W hW (by decide) (by omega)
  have HR := Lib.hid hread; clear hread
  have hg0 := hs.cell 0 (by omega)
  simp only [gnum, List.getD_cons_zero] at hg0
  have hgl := lt_of_cell hg0
  go_enter Tryd.func7, Tryd.ntmps7
  go_wp2_with fail
  refine (HB.out _).mono ?_
  rintro e w1 ⟨⟨g, rfl, hr, hg⟩, b1⟩
  have hr1 : RowV w1 g [.string S] := by rw [← hS]; exact hr
  have c1 := hr1.cell (j := 0) rfl
  have l1 := hr1.lt
  have hn1 : nblk (ByteArray.size ⟨#[97]⟩) = 1 := rfl
  have s1 : SRow w1 w1.heap.size (some ⟨g, 0, none⟩) [S] := by
    rw [← hS]; exact hr.srow l1
  have H1 := Lib.hid hr1
  clear hr hr1
  rw [hn1]
  go_wp2_with fail
  refine (read_c s w1.heap.size 1 (some ⟨g, 0, none⟩) [S] w1 (hs.below b1 (Nat.le_refl _)) (by simp) (by simp) s1 (Nat.le_refl _)).mono ?_
  rw [HR.out]
  rintro e w2 ⟨h2, b2⟩
  obtain rfl := h2
  have B2 : Hid (Below w.heap.size w w2) := Lib.hid (b1.trans (b2.mono b1.size))
  have c2 : w2.cell? ⟨g, 0, none⟩ = some (.string S) := (b2.cell (p := ⟨g, 0, none⟩) l1).trans c1
  have l2 : g < w2.heap.size := Nat.lt_of_lt_of_le l1 b2.size
  clear b1 b2 c1 s1
  go_wp2_with fail
  refine (HE.out _ (hs.below B2.out (Nat.le_refl _))).mono ?_
  rintro e w3 ⟨rfl, b3⟩
  have B3 : Hid (Below w.heap.size w w3) := Lib.hid (B2.out.trans (b3.mono B2.out.size))
  have c3 : w3.cell? ⟨g, 0, none⟩ = some (.string S) := (b3.cell (p := ⟨g, 0, none⟩) l2).trans c2
  have hs3 : Sent s w3 := hs.below B3.out (Nat.le_refl _)
  have hg3 := hs3.cell 0 (by omega)
  simp only [gnum, List.getD_cons_zero] at hg3
  clear b3 c2 hg0
  have z64 : (S.size : Int) = 64 := by omega
  go_wp2_with fail
  refine (is_sent s 0 0 _ hs3 (by omega) (by omega)).mono ?_
  rintro e w4 ⟨rfl, rfl⟩
  go_wp2_with fail
  refine (sizeS_c ⟨#[]⟩ _ (by decide)).mono ?_
  rintro e w4 ⟨rfl, rfl⟩
  go_wp2_with fail
  go_ret
  exact ⟨rfl, B3.out⟩

set_option maxHeartbeats 1600000 in
set_option maxRecDepth 100000 in
/-- at(nil). -/
theorem at_nil (w : World) : Calls Tryd.prog 15 #[.nilIface] w fun e w' => e = .returned (.int .i64 (-1)) ∧ Below w.heap.size w w' := by
  go_enter Tryd.func15, Tryd.ntmps15
  go_wp2_with fail
  go_ret
  exact ⟨rfl, by (repeat' (first | (with_reducible exact Below.refl _ _) | (with_reducible refine below_drewN ?_ _) | (with_reducible refine Below.drew ?_) | (with_reducible refine Below.alloc ?_ ?_ _) | (with_reducible refine Below.setCell ?_ ?_ _) | (with_reducible refine Below.trans ?_ (Below.mono (by with_reducible assumption) ?_)) | omega | (simp only [World.size_alloc, World.size_setCell, World.size_drew, Go.Proofs.YtbiofjdlfppfoaaDoor.World.size_drewN] at *; omega) | (with_reducible refine Below.size (B := 0) ?_)))⟩
end Go.Proofs.YtbiofjdlfppfoaaDoor
