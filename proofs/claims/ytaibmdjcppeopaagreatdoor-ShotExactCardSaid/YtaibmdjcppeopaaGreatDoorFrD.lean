/- Contracts of package frame: what blocks have ahead of their trailers, the text of a payload. Conditions: the blocks have as many bytes as a block has. -/
import Derived.Test.YtaibmdjcppeopaaGreatDoorFrC
import Derived.Deep.RegionWith
namespace Go.Proofs.YtaibmdjcppeopaaGreatDoor
open Go Go.RowKit

/-- What a round of the loop over the blocks begins with. -/
def PRel (w : World) (l : List (List UInt8)) (i : Value) (wr : World) : Prop :=
  ∃ j : Nat, i = .int .i64 j ∧ j ≤ l.length ∧ Lib.IsBuilder 124 5 w.heap.size w.heap.size (Lib.byteCells (joinF l j)) wr ∧ Below w.heap.size w wr
theorem strCells_bst2 (l : List UInt8) : Lib.strCells (bst l) = Lib.byteCells l := rfl
theorem PRel.step {w wr w3 : World} {l : List (List UInt8)} {j : Nat} {b : List UInt8} (hj : l[j]? = some b) (hb : Below w.heap.size w wr) (h1 : Lib.BuilderAt 124 5 w.heap.size w.heap.size (.pointer (some ⟨w.heap.size, 0, none⟩)) (Lib.byteCells (joinF l j) ++ Lib.strCells (bst (b.take 56))) w3) (h2 : Below w.heap.size wr w3) :
    PRel w l (.int .i64 ((j : Int) + 1)) w3 := by
  rw [strCells_bst2, ← Lib.byteCells_append, ← join_succ hj] at h1
  exact ⟨j + 1, ret_v (by omega), (List.getElem?_eq_some_iff.1 hj).1, .inr h1, hb.trans h2⟩
theorem join_le (l : List (List UInt8)) (hl : ∀ b ∈ l, b.length = 64) : ∀ j, j ≤ l.length → (joinF l j).length = 56 * j
  | 0, _ => rfl
  | j + 1, hj => by
    rw [join_succ (List.getElem?_eq_getElem (by omega)), List.length_append, join_le l hl j (by omega), List.length_take, hl _ (List.getElem_mem _)]
    omega

set_option maxHeartbeats 3200000 in
set_option maxRecDepth 100000 in
theorem payloadOf_c (B c : Nat) (A : Option Addr) (l : List ByteArray) (w : World) (h : SRow w B A l) (hB : B ≤ w.heap.size) (h0 : 1 ≤ l.length) (h108 : l.length ≤ 108) (hz : ∀ b ∈ rows l, b.length = 64) :
    Calls Tryz.prog 69 #[.slice A l.length c] w fun e w' => e = .returned (.string (bst (joinF (rows l) l.length))) ∧ Below w.heap.size w w' := by
  have hlen := join_le (rows l) hz
  rw [rows_len] at hlen
  have hst : PRel w (rows l) (.int .i64 0) (w.alloc (.cells #[.pointer none, .slice none 0 0] 124)) := ⟨0, rfl, Nat.zero_le _, Lib.fresh_isBuilder _ _ w, (Below.refl _ _).alloc (Nat.le_refl _) _⟩
  have HST := Lib.hid hst; clear hst
  go_enter Tryz.func69, Tryz.ntmps69
  go_wp2_with fail
  go_loopw [8] (fun i wr => PRel w (rows l) i wr) (fun i _ => l.length - (intOf i).toNat)
  case atStart => exact HST.out
  case round =>
    obtain ⟨j, rfl, hj, hr, hb⟩ := hrel
    rw [rows_len] at hj
    clear HST
    by_cases hjn : j < l.length
    · obtain ⟨z, hzj⟩ : ∃ z, l[j]? = some z := ⟨_, List.getElem?_eq_getElem hjn⟩
      obtain ⟨a, rfl, ha, hc⟩ := (h.below hb hB).cell hzj
      have hrow : (rows l)[j]? = some z.data.toList := by rw [rows_get, hzj]; rfl
      have hzs : z.size = 64 := by rw [← size_len]; exact hz _ (List.mem_of_getElem? hrow)
      have z56 : (56 : Int) ≤ (z.size : Int) := by omega
      have hcut : z.extract 0 56 = bst (z.data.toList.take 56) := bst_ext (by rw [cut_list]; rfl)
      have hcs : (z.extract 0 56).size = 56 := by rw [cut_size _ _ _ (by omega) (by omega)]
      have hbw := hb.size
      have W5 : Hid (∀ W3, Lib.BuilderAt 124 5 w.heap.size w.heap.size (.pointer (some ⟨w.heap.size, 0, none⟩)) (Lib.byteCells (joinF (rows l) j) ++ Lib.strCells (z.extract 0 56)) W3 → Below w.heap.size wr W3 → PRel w (rows l) (.int .i64 ((j : Int) + 1)) W3) := Lib.hid fun W3 g1 g2 => by
        rw [hcut] at g1; exact PRel.step hrow hb g1 g2
      have HW := Lib.hid (bwrite_c w.heap.size w.heap.size (Lib.byteCells (joinF (rows l) j)) (z.extract 0 56) wr hr (by rw [Lib.byteCells_length, hlen j (by omega), hcs]; omega) hbw)
      clear hr hb hrow hcut hcs
      go_wp2_with fail
      refine (HW.out).mono ?_
      rintro e w3 ⟨rfl, g1, g2⟩
      have G := Lib.hid (W5.out _ g1 g2)
      clear g1 g2
      go_wp2_with fail
      go_roundw
      case rel => exact G.out
      case measure => simp [intOf]; omega
    · obtain rfl : j = l.length := by omega
      have hne : joinF (rows l) l.length ≠ [] := fun e => by
        have := hlen l.length (Nat.le_refl _)
        rw [e, List.length_nil] at this; omega
      have HW := Lib.hid (bstring_c w.heap.size w.heap.size _ wr hr hne)
      have HB := Lib.hid hb
      clear hr hb
      go_wp2_with fail
      refine (HW.out).mono ?_
      rintro e w3 ⟨rfl, g2⟩
      have G := Lib.hid (HB.out.trans g2)
      go_wp2_with fail
      go_ret
      exact ⟨rfl, G.out⟩

theorem trim_zero (l : List UInt8) : Lib.trimB l 0 = [] ↔ l = List.replicate l.length 0 := by
  have key : ∀ m : List UInt8, m.dropWhile (· == 0) = [] ↔ ∀ b ∈ m, b = 0 := fun m => by
    induction m with
    | nil => simp
    | cons a m ih =>
      by_cases ha : a = 0
      · rw [List.dropWhile_cons, if_pos (by simp [ha]), ih]; simp [ha]
      · rw [List.dropWhile_cons, if_neg (by simp [ha])]; simp [ha]
  unfold Lib.trimB Lib.trimLeftB Lib.trimRightB
  rw [List.eq_replicate_iff]
  constructor
  · intro h
    refine ⟨rfl, ?_⟩
    have h1 := (key _).1 h
    by_cases e : l.reverse.dropWhile (· == 0) = []
    · have := (key _).1 e
      intro b hb; exact this b (by simpa using hb)
    · exfalso
      obtain ⟨x, r, hx⟩ := List.exists_cons_of_ne_nil e
      have hx0 : x ≠ 0 := by
        have := List.head_dropWhile_not (p := (· == (0 : UInt8))) (l := l.reverse) e
        simp [hx] at this
        exact this
      exact hx0 (h1 x (by rw [hx]; simp))
  · rintro ⟨_, h⟩
    have : l.reverse.dropWhile (· == 0) = [] := (key _).2 fun b hb => h b (by simpa using hb)
    rw [this]; rfl

/-- What unpack returns. -/
def unpV (o : Option (List UInt8)) : Value := .tuple #[.string (bst (o.getD [])), .bool o.isSome]
theorem unpV_none : unpV none = .tuple #[.string ⟨#[]⟩, .bool false] := rfl
theorem unpV_some (d : List UInt8) : unpV (some d) = .tuple #[.string (bst d), .bool true] := rfl

set_option maxHeartbeats 3200000 in
set_option maxRecDepth 100000 in
/-- The length is wrong. -/
theorem unpack_len (P : ByteArray) (w : World) (h8 : 56 ≤ P.size) (hP : P.size ≤ 10000) (k : Nat) (hk : valB (P.data.toList.take 4) = k) (hbad : 6000 < k ∨ 56 * nblk k ≠ P.size) :
    Calls Tryz.prog 68 #[.string P] w fun e w' => e = .returned (.tuple #[.string ⟨#[]⟩, .bool false]) ∧ Below w.heap.size w w' := by
  obtain ⟨x, hx⟩ : ∃ x, valB ((P.data.toList.drop 4).take 4) = x := ⟨_, rfl⟩
  have E1 : Hid (∀ W, _) := Lib.hid fun W => num_at P 0 4 W k (by omega) (by omega) (by omega) hk
  have E2 : Hid (∀ W, _) := Lib.hid fun W => num_at P 4 8 W x (by omega) (by omega) (by omega) hx
  have z4 : (4 : Int) ≤ (P.size : Int) := by omega
  have z8 : (8 : Int) ≤ (P.size : Int) := by omega
  have hk4 : k < 4294967296 := by
    have := valB_lt (P.data.toList.take 4)
    rw [hk, show (P.data.toList.take 4).length = 4 by rw [List.length_take, size_len]; omega] at this
    exact this
  clear hk hx
  go_enter Tryz.func68, Tryz.ntmps68
  go_wp2_with fail
  go_region_with (go_at_call 77; (first | (with_reducible refine (E1.out _).mono ?_) | (with_reducible refine (E2.out _).mono ?_)); rintro e w5 ⟨rfl, rfl⟩)
  all_goals go_wp2_with fail
  · refine (size_c k _ (by omega)).mono ?_
    rintro e w6 ⟨rfl, rfl⟩
    have hnb : nblk k ≤ 108 := by unfold nblk; omega
    have hne : (((nblk k : Nat) : Int) * 56 != (P.size : Int)) = true := by rw [bne_iff_ne]; omega
    go_wp2_with fail
    go_ret2
    exact ⟨rfl, by (repeat' (first | (with_reducible exact Below.refl _ _) | (with_reducible refine below_drewN ?_ _) | (with_reducible refine Below.drew ?_) | (with_reducible refine Below.alloc ?_ ?_ _) | (with_reducible refine Below.setCell ?_ ?_ _) | (with_reducible refine Below.trans ?_ (Below.mono (by with_reducible assumption) ?_)) | omega | (simp only [World.size_alloc, World.size_setCell, World.size_drew, Go.Proofs.YtaibmdjcppeopaaGreatDoor.World.size_drewN] at *; omega) | (with_reducible refine Below.size (B := 0) ?_)))⟩
  · go_ret2
    exact ⟨rfl, by (repeat' (first | (with_reducible exact Below.refl _ _) | (with_reducible refine below_drewN ?_ _) | (with_reducible refine Below.drew ?_) | (with_reducible refine Below.alloc ?_ ?_ _) | (with_reducible refine Below.setCell ?_ ?_ _) | (with_reducible refine Below.trans ?_ (Below.mono (by with_reducible assumption) ?_)) | omega | (simp only [World.size_alloc, World.size_setCell, World.size_drew, Go.Proofs.YtaibmdjcppeopaaGreatDoor.World.size_drewN] at *; omega) | (with_reducible refine Below.size (B := 0) ?_)))⟩

theorem run_cut_from (X : ByteArray) (i : Int) (a : Nat) (w : World) (hi : i = a) (ha : a ≤ X.size) :
    (Instr.slice 9 (.string X) (some (.int .i64 i)) none none).run Tryz.prog w = .ok (.string (X.extract a X.size)) w := by
  subst hi
  have h1 : (a : Int) ≤ (X.size : Int) := by omega
  have h3 : (0 : Int) ≤ (a : Int) := by omega
  simp [Instr.slice, run_underlying Tryz.underlying9, h1, h3, go_sem]
  try (intro h; omega)

/-- What is known of a payload whose length is right: k bytes of text with the checksum c, x stands as the checksum, Z behind the text. -/
structure Pay (P D Z : ByteArray) (k c x : Nat) : Prop where
  p56 : 56 ≤ P.size
  p1 : P.size ≤ 10000
  k1 : k ≤ 6000
  len : 56 * nblk k = P.size
  hk : valB (P.data.toList.take 4) = k
  hx : valB ((P.data.toList.drop 4).take 4) = x
  hD : P.extract 8 (8 + k) = D
  hZ : P.extract (8 + k) P.size = Z
  hc : crcN D.data.toList = c
theorem Pay.fits {P D Z : ByteArray} {k c x : Nat} (h : Pay P D Z k c x) : 8 + k ≤ P.size := by have h1 := h.len; have h2 := h.p56; unfold nblk at h1; omega
theorem Pay.x4 {P D Z : ByteArray} {k c x : Nat} (h : Pay P D Z k c x) : x < 4294967296 := by
  have := valB_lt ((P.data.toList.drop 4).take 4)
  rw [h.hx, show ((P.data.toList.drop 4).take 4).length = 4 by rw [List.length_take, List.length_drop, size_len]; have := h.p56; omega] at this
  exact this
theorem Pay.sum {P D Z : ByteArray} {k c x : Nat} (h : Pay P D Z k c x) (W : World) : Calls Tryz.prog 62 #[.string D] W fun e w' => e = .returned (.int .u32 (c : Int)) ∧ W = w' := by
  have hs : D.size ≤ 10000 := by rw [← h.hD, cut_size _ _ _ (by omega) h.fits]; have := h.k1; omega
  have h1 := sum_of_c D W (by omega)
  have : moreI 1 D.data.toList = ((c : Nat) : Int) := by
    have h2 := (moreI_bd D.data.toList 1 (by unfold U32; omega)); unfold U32 at h2
    have h3 := h.hc; unfold crcN at h3; omega
  rw [this] at h1; exact h1

set_option maxHeartbeats 3200000 in
set_option maxRecDepth 100000 in
/-- The checksum is wrong. -/
theorem unpack_crc (P D Z : ByteArray) (k c x : Nat) (w : World) (h : Pay P D Z k c x) (hcx : c ≠ x) :
    Calls Tryz.prog 68 #[.string P] w fun e w' => e = .returned (.tuple #[.string ⟨#[]⟩, .bool false]) ∧ Below w.heap.size w w' := by
  have hf := h.fits
  have p56 := h.p56
  have k1 := h.k1
  have E1 : Hid (∀ W, _) := Lib.hid fun W => num_at P 0 4 W k (by omega) (by omega) (by omega) h.hk
  have E2 : Hid (∀ W, _) := Lib.hid fun W => num_at P 4 8 W x (by omega) (by omega) (by omega) h.hx
  have E3 : Hid (∀ W, _) := Lib.hid fun W => h.sum W
  have s1 := fun W => run_cut P 8 (8 + (k : Int)) 8 (8 + k) W (by omega) (by omega) (by omega) hf
  have s2 := fun W => run_cut_from P (8 + (k : Int)) (8 + k) W (by omega) hf
  rw [h.hD] at s1
  rw [h.hZ] at s2
  have z4 : (4 : Int) ≤ (P.size : Int) := by omega
  have z8 : (8 : Int) ≤ (P.size : Int) := by omega
  have hne : ¬ (6000 < (k : Int)) := by omega
  have hnb : nblk k ≤ 108 := by unfold nblk; omega
  have hsz : (((nblk k : Nat) : Int) * 56 != (P.size : Int)) = false := by rw [bne_eq_false_iff_eq]; have := h.len; omega
  have hcx' : ((c : Int) != (x : Int)) = true := by rw [bne_iff_ne]; omega
  clear h hcx
  go_enter Tryz.func68, Tryz.ntmps68
  go_wp2_with fail
  go_region_with (go_at_call 77; (first | (with_reducible refine (E1.out _).mono ?_) | (with_reducible refine (E2.out _).mono ?_)); rintro e w5 ⟨rfl, rfl⟩)
  all_goals go_wp2_with fail
  refine (size_c k _ (by omega)).mono ?_
  rintro e w6 ⟨rfl, rfl⟩
  go_wp2_with fail
  go_region
  all_goals go_wp2_with fail
  refine (E3.out _).mono ?_
  rintro e w6 ⟨rfl, rfl⟩
  go_wp2_with fail
  go_ret2
  exact ⟨rfl, by (repeat' (first | (with_reducible exact Below.refl _ _) | (with_reducible refine below_drewN ?_ _) | (with_reducible refine Below.drew ?_) | (with_reducible refine Below.alloc ?_ ?_ _) | (with_reducible refine Below.setCell ?_ ?_ _) | (with_reducible refine Below.trans ?_ (Below.mono (by with_reducible assumption) ?_)) | omega | (simp only [World.size_alloc, World.size_setCell, World.size_drew, Go.Proofs.YtaibmdjcppeopaaGreatDoor.World.size_drewN] at *; omega) | (with_reducible refine Below.size (B := 0) ?_)))⟩

set_option maxHeartbeats 3200000 in
set_option maxRecDepth 100000 in
/-- The padding is wrong, or all is right. -/
theorem unpack_pad (P D Z : ByteArray) (k x : Nat) (w : World) (h : Pay P D Z k x x) (T : List UInt8) (hT : Lib.trimB Z.data.toList 0 = T) (V : Value) (hV : V = if T = [] then .tuple #[.string D, .bool true] else .tuple #[.string ⟨#[]⟩, .bool false]) :
    Calls Tryz.prog 68 #[.string P] w fun e w' => e = .returned V ∧ Below w.heap.size w w' := by
  have hf := h.fits
  have p56 := h.p56
  have k1 := h.k1
  have E1 : Hid (∀ W, _) := Lib.hid fun W => num_at P 0 4 W k (by omega) (by omega) (by omega) h.hk
  have E2 : Hid (∀ W, _) := Lib.hid fun W => num_at P 4 8 W x (by omega) (by omega) (by omega) h.hx
  have E3 : Hid (∀ W, _) := Lib.hid fun W => h.sum W
  have hZs : Z.size ≤ 10000 := by rw [← h.hZ, cut_size _ _ _ hf (Nat.le_refl _)]; have := h.p1; omega
  have E4 : Hid (∀ W, Calls Tryz.prog 78 #[.string Z, .string ⟨#[0]⟩] W fun e w' => e = .returned (.string ⟨T.toArray⟩) ∧ (w' = W ∨ w' = W.drew)) := Lib.hid fun W => by
    have := trim_c Z 0 W (by decide) (by omega)
    rw [hT] at this; exact this
  have s1 := fun W => run_cut P 8 (8 + (k : Int)) 8 (8 + k) W (by omega) (by omega) (by omega) hf
  have s2 := fun W => run_cut_from P (8 + (k : Int)) (8 + k) W (by omega) hf
  rw [h.hD] at s1
  rw [h.hZ] at s2
  have z4 : (4 : Int) ≤ (P.size : Int) := by omega
  have z8 : (8 : Int) ≤ (P.size : Int) := by omega
  have hne : ¬ (6000 < (k : Int)) := by omega
  have hnb : nblk k ≤ 108 := by unfold nblk; omega
  have hsz : (((nblk k : Nat) : Int) * 56 != (P.size : Int)) = false := by rw [bne_eq_false_iff_eq]; have := h.len; omega
  clear h hT
  go_enter Tryz.func68, Tryz.ntmps68
  go_wp2_with fail
  go_region_with (go_at_call 77; (first | (with_reducible refine (E1.out _).mono ?_) | (with_reducible refine (E2.out _).mono ?_)); rintro e w5 ⟨rfl, rfl⟩)
  all_goals go_wp2_with fail
  refine (size_c k _ (by omega)).mono ?_
  rintro e w6 ⟨rfl, rfl⟩
  go_wp2_with fail
  go_region
  all_goals go_wp2_with fail
  refine (E3.out _).mono ?_
  rintro e w6 ⟨rfl, rfl⟩
  go_wp2_with fail
  refine (E4.out _).mono ?_
  rintro e w7 ⟨rfl, hw⟩
  have hb7 : Below w.heap.size w w7 := by rcases hw with rfl | rfl <;> (repeat' (first | (with_reducible exact Below.refl _ _) | (with_reducible refine below_drewN ?_ _) | (with_reducible refine Below.drew ?_) | (with_reducible refine Below.alloc ?_ ?_ _) | (with_reducible refine Below.setCell ?_ ?_ _) | (with_reducible refine Below.trans ?_ (Below.mono (by with_reducible assumption) ?_)) | omega | (simp only [World.size_alloc, World.size_setCell, World.size_drew, Go.Proofs.YtaibmdjcppeopaaGreatDoor.World.size_drewN] at *; omega) | (with_reducible refine Below.size (B := 0) ?_)))
  clear hw
  by_cases hT : T = []
  · subst hT
    rw [if_pos rfl] at hV
    subst hV
    go_wp2_with fail
    go_ret2
    exact ⟨rfl, by (repeat' (first | (with_reducible exact Below.refl _ _) | (with_reducible refine below_drewN ?_ _) | (with_reducible refine Below.drew ?_) | (with_reducible refine Below.alloc ?_ ?_ _) | (with_reducible refine Below.setCell ?_ ?_ _) | (with_reducible refine Below.trans ?_ (Below.mono (by with_reducible assumption) ?_)) | omega | (simp only [World.size_alloc, World.size_setCell, World.size_drew, Go.Proofs.YtaibmdjcppeopaaGreatDoor.World.size_drewN] at *; omega) | (with_reducible refine Below.size (B := 0) ?_)))⟩
  · rw [if_neg hT] at hV
    subst hV
    have hT' : (T == []) = false := by simpa using hT
    go_wp2_with fail
    trace_state
    go_ret2
    exact ⟨rfl, by (repeat' (first | (with_reducible exact Below.refl _ _) | (with_reducible refine below_drewN ?_ _) | (with_reducible refine Below.drew ?_) | (with_reducible refine Below.alloc ?_ ?_ _) | (with_reducible refine Below.setCell ?_ ?_ _) | (with_reducible refine Below.trans ?_ (Below.mono (by with_reducible assumption) ?_)) | omega | (simp only [World.size_alloc, World.size_setCell, World.size_drew, Go.Proofs.YtaibmdjcppeopaaGreatDoor.World.size_drewN] at *; omega) | (with_reducible refine Below.size (B := 0) ?_)))⟩
end Go.Proofs.YtaibmdjcppeopaaGreatDoor
