/- The disk of package block as memory holds it, and the contracts of its methods. Conditions: the sentinels lie as the program's text lays them; a disk has at most 4096 blocks and has seen at most a million writes. -/
import Derived.Test.YtaibmdjcppeopaaGreatDoorBlkM
import Derived.Test.YtaibmdjcppeopaaGreatDoorChg
import Derived.Test.YtaibmdjcppeopaaGreatDoorErrs
import Derived.WalkKit
import Derived.Outline
import Derived.Handy
import Derived.Lib.Hide
import Derived.IntWalk
import Derived.LoopTactic
import Derived.Laws.IdiomStrings
import Derived.Deep.QuietTactic
import Derived.Deep.OwnRows
import Derived.Deep.RegionHeld3
namespace Go.Proofs.YtaibmdjcppeopaaGreatDoor
open Go Go.RowKit

set_option maxHeartbeats 800000 in
set_option maxRecDepth 100000 in
theorem clamp_c (n : Int) (m : Nat) (w : World) (hm : m ≤ 262144) (h0 : -9223372036854775808 ≤ n) (h1 : n ≤ 9223372036854775807) :
    Calls Tryz.prog 23 #[.int .i64 n, .int .i64 (m : Int)] w fun e w' => e = .returned (.int .i64 (clampI n m : Nat)) ∧ w = w' := by
  go_enter Tryz.func23, Tryz.ntmps23
  go_wp2
  all_goals (go_ret; refine ⟨ret_i ?_, rfl⟩; unfold clampI; first | omega | (split at * <;> omega))

/-- The disk's blocks in memory: p its own, g that of its bytes. -/
def RowAt (w : World) (g : Nat) (bs : List UInt8) : Prop :=
  g < w.heap.size ∧ ∀ j (hj : j < bs.length), w.cell? ⟨g, j, none⟩ = some (.int .u8 (bs[j].toNat : Int)) ∧ w.frozen? ⟨g, j, none⟩ = false
def dskV (g cap : Nat) (d : DS) : Array Value := #[.slice (some ⟨g, 0, none⟩) d.bs.length cap, .bool d.on, .int .i64 d.fuse, .int .i64 (d.torn : Int), .int .i64 (d.wr : Int)]
structure DiskAt (w : World) (p g cap : Nat) (d : DS) : Prop where
  blk : w.heap[p]? = some (.cells (dskV g cap d) 66 (0, 0))
  row : RowAt w g d.bs
  ne : g < p
  cap1 : d.bs.length ≤ cap
  ok : d.Ok

theorem cell_same {w w' : World} {g : Nat} (h : w'.heap[g]? = w.heap[g]?) (j : Nat) : w'.cell? ⟨g, j, none⟩ = w.cell? ⟨g, j, none⟩ ∧ w'.frozen? ⟨g, j, none⟩ = w.frozen? ⟨g, j, none⟩ :=
  ⟨World.cell?_of_block (w := w) h, World.frozen?_of_block (w := w) h⟩
theorem size_of_same {w w' : World} {g : Nat} (hg : g < w.heap.size) (h : w'.heap[g]? = w.heap[g]?) : g < w'.heap.size := by
  rcases Nat.lt_or_ge g w'.heap.size with h1 | h1
  · exact h1
  · rw [Array.getElem?_eq_none h1, Array.getElem?_eq_getElem hg] at h; cases h
theorem RowAt.same {w w' : World} {g : Nat} {bs : List UInt8} (h : RowAt w g bs) (hg : w'.heap[g]? = w.heap[g]?) : RowAt w' g bs :=
  ⟨size_of_same h.1 hg, fun j hj => by rw [(cell_same hg j).1, (cell_same hg j).2]; exact h.2 j hj⟩
theorem DiskAt.same {w w' : World} {p g cap : Nat} {d : DS} (h : DiskAt w p g cap d) (hp : w'.heap[p]? = w.heap[p]?) (hg : w'.heap[g]? = w.heap[g]?) : DiskAt w' p g cap d :=
  ⟨hp.trans h.blk, h.row.same hg, h.ne, h.cap1, h.ok⟩
theorem DiskAt.lt {w : World} {p g cap : Nat} {d : DS} (h : DiskAt w p g cap d) : p < w.heap.size ∧ g < p := ⟨lt_of_block h.blk, h.ne⟩
theorem DiskAt.kept {w w' : World} {p g cap p' q' : Nat} {d : DS} (h : DiskAt w p g cap d) (hc : Chg p' q' w w') (h1 : p ≠ p') (h2 : p ≠ q') (h3 : g ≠ p') (h4 : g ≠ q') : DiskAt w' p g cap d :=
  h.same (hc.block p h.lt.1 h1 h2) (hc.block g (by have := h.lt; omega) h3 h4)
theorem DiskAt.below {w w' : World} {p g cap B : Nat} {d : DS} (h : DiskAt w p g cap d) (hb : Below B w w') (h1 : p < B) : DiskAt w' p g cap d := h.same (hb.block p h1) (hb.block g (by have := h.lt; omega))
theorem DiskAt.alloc {w : World} {p g cap : Nat} {d : DS} (h : DiskAt w p g cap d) (x : Obj) : DiskAt (w.alloc x) p g cap d :=
  h.same (Below.heap_alloc w x p h.lt.1) (Below.heap_alloc w x g (by have := h.lt; omega))
theorem DiskAt.drewN {w : World} {p g cap : Nat} {d : DS} (h : DiskAt w p g cap d) (n : Nat) : DiskAt (w.drewN n) p g cap d := h.same rfl rfl
theorem DiskAt.drew {w : World} {p g cap : Nat} {d : DS} (h : DiskAt w p g cap d) : DiskAt w.drew p g cap d := h.same rfl rfl

set_option maxHeartbeats 800000 in
set_option maxRecDepth 100000 in
theorem len_c (p g cap : Nat) (d : DS) (w : World) (h : DiskAt w p g cap d) :
    Calls Tryz.prog 25 #[.pointer (some ⟨p, 0, none⟩)] w fun e w' => e = .returned (.int .i64 (d.n : Nat)) ∧ w = w' := by
  have c0 : w.cell? ⟨p, 0, none⟩ = some (.slice (some ⟨g, 0, none⟩) d.bs.length cap) := cell_of_heap h.blk 0
  have hl := h.ok.len
  go_enter Tryz.func25, Tryz.ntmps25
  go_wp2
  go_ret
  exact ⟨ret_i rfl, rfl⟩

set_option maxHeartbeats 800000 in
set_option maxRecDepth 100000 in
theorem has_c (p g cap : Nat) (d : DS) (i : Int) (w : World) (h : DiskAt w p g cap d) :
    Calls Tryz.prog 63 #[.pointer (some ⟨p, 0, none⟩), .int .i64 i] w fun e w' => e = .returned (.bool (d.has i)) ∧ w = w' := by
  go_enter Tryz.func63, Tryz.ntmps63
  by_cases h0 : 0 ≤ i
  · go_wp2_with (go_at_call 25; (with_reducible refine (len_c p g cap d _ h).mono ?_); rintro e w1 ⟨rfl, rfl⟩)
    go_ret
    exact ⟨by unfold DS.has; simp [h0], rfl⟩
  · go_wp2
    go_ret
    exact ⟨by unfold DS.has; rw [decide_eq_false (Int.not_le.2 h0)]; rfl, rfl⟩

theorem addr0 (p j : Nat) : (⟨p, 0, none⟩ : Addr).add j = ⟨p, j, none⟩ := by
  unfold Addr.add; split
  · subst_vars; rfl
  · simp

set_option maxHeartbeats 1600000 in
set_option maxRecDepth 100000 in
theorem block_c (p g cap : Nat) (d : DS) (k : Nat) (w : World) (h : DiskAt w p g cap d) (hk : 64 * k + 64 ≤ d.bs.length) :
    Calls Tryz.prog 64 #[.pointer (some ⟨p, 0, none⟩), .int .i64 (k : Int)] w fun e w' => e = .returned (.slice (some ⟨g, 64 * k, none⟩) 64 (cap - 64 * k)) ∧ w = w' := by
  have c0 : w.cell? ⟨p, 0, none⟩ = some (.slice (some ⟨g, 0, none⟩) d.bs.length cap) := cell_of_heap h.blk 0
  have hl := h.ok.len
  have hc := h.cap1
  clear h
  go_enter Tryz.func64, Tryz.ntmps64
  go_wp2
  go_ret
  refine ⟨?_, rfl⟩
  show Ending.returned (.slice (some ⟨g, k * 64, none⟩) ((k + 1) * 64 - k * 64) (cap - k * 64)) = _
  rw [show (k + 1) * 64 - k * 64 = 64 from by omega, Nat.mul_comm k 64]

theorem block_q (p g cap : Nat) (d : DS) (k : Nat) (w : World) (h : DiskAt w p g cap d) (hk : 64 * k + 64 ≤ d.bs.length) :
    Calls Tryz.prog 64 #[.pointer (some ⟨p, 0, none⟩), .int .i64 (k : Int)] w fun e w' => e = .returned (.slice (some ⟨g, 64 * k, none⟩) 64 (cap - 64 * k)) ∧ w' = w :=
  (block_c p g cap d k w h hk).mono fun _ _ ⟨a, b⟩ => ⟨a, b.symm⟩

theorem addr_add (g o j : Nat) : (⟨g, o, none⟩ : Addr).add j = ⟨g, o + j, none⟩ := by
  unfold Addr.add; split
  · subst_vars; rfl
  · rfl

/-- The bytes of a piece of a row, as a string. -/
theorem conv_row (w : World) (g o c : Nat) (bs : List UInt8) (hc : ∀ j (hj : j < bs.length), w.cell? ⟨g, o + j, none⟩ = some (.int .u8 (bs[j].toNat : Int))) :
    (convert 51 9 (.slice (some ⟨g, o, none⟩) bs.length c)).run Tryz.prog w = .ok (.string ⟨bs.toArray⟩) w := by
  refine run_convert_bytes_back w _ _ 5 ⟨g, o, none⟩ c bs Tryz.underlying51 Tryz.underlying5 Tryz.underlying9 fun j hj => ?_
  rw [addr_add]
  exact hc j hj
theorem blk_at {d : DS} {k j : Nat} (hj : j < (d.blk k).length) : ∃ h : 64 * k + j < d.bs.length, (d.blk k)[j] = d.bs[64 * k + j] := by
  have h : 64 * k + j < d.bs.length := by have e : (d.blk k).length = min 64 (d.bs.length - 64 * k) := by unfold DS.blk; simp
                                          omega
  exact ⟨h, by simp [DS.blk]⟩
/-- The string of a list of bytes. -/
abbrev strB (bs : List UInt8) : ByteArray := ⟨bs.toArray⟩
theorem conv_blk {w : World} {p g cap : Nat} {d : DS} (h : DiskAt w p g cap d) {i : Int} (hi : d.has i = true) (c : Nat) :
    (convert 51 9 (.slice (some ⟨g, 64 * i.toNat, none⟩) 64 c)).run Tryz.prog w = .ok (.string (strB (d.blk i.toNat))) w := by
  have h1 := conv_row w g (64 * i.toNat) c (d.blk i.toNat) (fun j hj => by
    obtain ⟨h2, h3⟩ := blk_at hj
    rw [h3]; exact (h.row.2 _ h2).1)
  rw [DS.blk_len hi] at h1
  exact h1
theorem conv_all {w : World} {p g cap : Nat} {d : DS} (h : DiskAt w p g cap d) : (convert 51 9 (.slice (some ⟨g, 0, none⟩) d.bs.length cap)).run Tryz.prog w = .ok (.string (strB d.bs)) w :=
  conv_row w g 0 cap d.bs fun j hj => by rw [Nat.zero_add]; exact (h.row.2 j hj).1

set_option maxHeartbeats 1600000 in
set_option maxRecDepth 100000 in
theorem image_c (p g cap : Nat) (d : DS) (w : World) (h : DiskAt w p g cap d) :
    Calls Tryz.prog 15 #[.pointer (some ⟨p, 0, none⟩)] w fun e w' => e = .returned (.string (strB d.bs)) ∧ w = w' := by
  have c0 : w.cell? ⟨p, 0, none⟩ = some (.slice (some ⟨g, 0, none⟩) d.bs.length cap) := cell_of_heap h.blk 0
  have hv := conv_all h
  go_enter Tryz.func15, Tryz.ntmps15
  go_wp2
  go_ret
  exact ⟨rfl, rfl⟩

set_option maxHeartbeats 1600000 in
set_option maxRecDepth 100000 in
theorem dread_c (s : Nat → Addr) (p g cap : Nat) (d : DS) (i : Int) (w : World) (hs : Sent s w) (h : DiskAt w p g cap d) :
    Calls Tryz.prog 57 #[.pointer (some ⟨p, 0, none⟩), .int .i64 i] w fun e w' => e = .returned (.tuple #[.string (strB (d.read i).2), errV s (d.read i).1]) ∧ ∃ nd, w' = w.drewN nd := by
  have c1 : w.cell? ⟨p, 1, none⟩ = some (.bool d.on) := cell_of_heap h.blk 1
  have gA := hs.cell 0 (by omega)
  have gD := hs.cell 13 (by omega)
  simp only [gnum, List.getD_cons_zero, List.getD_cons_succ] at gA gD
  unfold DS.read
  cases hi : d.has i
  · go_enter Tryz.func57, Tryz.ntmps57
    go_wp2_with fail
    refine (has_c p g cap d i _ h).mono ?_
    rintro e w1 ⟨rfl, rfl⟩
    rw [hi]
    go_wp2_with fail
    go_region
    all_goals go_wp2_with fail
    all_goals go_ret2
    all_goals exact ⟨rfl, _, rfl⟩
  · cases ho : d.on
    · rw [ho] at c1
      go_enter Tryz.func57, Tryz.ntmps57
      go_wp2_with fail
      refine (has_c p g cap d i _ h).mono ?_
      rintro e w1 ⟨rfl, rfl⟩
      rw [hi]
      go_wp2_with fail
      go_region
      all_goals go_wp2_with fail
      all_goals go_ret2
      all_goals exact ⟨rfl, _, rfl⟩
    · rw [ho] at c1
      have hv := conv_blk h hi (cap - 64 * i.toNat)
      have hle := DS.has_le hi
      obtain ⟨k, rfl⟩ := Int.eq_ofNat_of_zero_le (DS.has_iff.1 hi).1
      rw [Int.toNat_natCast] at hv hle
      go_enter Tryz.func57, Tryz.ntmps57
      go_wp2_with fail
      refine (has_c p g cap d _ _ h).mono ?_
      rintro e w1 ⟨rfl, rfl⟩
      rw [hi]
      go_wp2_with fail
      refine (block_c p g cap d k _ h hle).mono ?_
      rintro e w1 ⟨rfl, rfl⟩
      go_wp2_with fail
      go_ret2
      exact ⟨rfl, 0, rfl⟩

set_option maxHeartbeats 1600000 in
set_option maxRecDepth 100000 in
/-- A new disk round a content. -/
theorem with_c (g n cap : Nat) (w : World) :
    Calls Tryz.prog 24 #[.slice (some ⟨g, 0, none⟩) n cap] w fun e w' => e = .returned (.pointer (some ⟨w.heap.size, 0, none⟩)) ∧ w' = w.alloc (.cells #[.slice (some ⟨g, 0, none⟩) n cap, .bool true, .int .i64 (-1), .int .i64 0, .int .i64 0] 66 (0, 0)) := by
  go_enter Tryz.func24, Tryz.ntmps24
  go_wp2
  go_ret
  exact ⟨rfl, rfl⟩

theorem below_two (w : World) (a b : Obj) : Below w.heap.size w ((w.alloc a).alloc b) := ((Below.refl _ _).alloc (Nat.le_refl _) _).alloc (by rw [World.size_alloc]; omega) _
theorem zeros_row (w : World) (n : Nat) : RowAt (w.alloc (.cells (madeCells #[.int .u8 0] n) 5)) w.heap.size (List.replicate n 0) := by
  refine ⟨by simp, fun j hj => ?_⟩
  rw [World.cell?_alloc_at _ _ _ _ rfl]
  simp at hj
  exact ⟨by simp [madeCells, hj, Nat.mod_one], frozen_of_heap (heap_alloc_new w _) j⟩
theorem bytes_row (w : World) (s : ByteArray) (c : Nat) : RowAt (w.alloc (.cells (bytesRow s c) 5 ((bytesRow s c).size, (bytesRow s c).size + 1))) w.heap.size s.data.toList := by
  refine ⟨by simp, fun j hj => ?_⟩
  rw [World.cell?_alloc_mark, World.frozen?_alloc_mark]
  have hj' : j < s.data.size := by simpa using hj
  refine ⟨by rw [bytesRow_at s c j hj']; simp, ?_⟩
  have : j < (bytesRow s c).size := by
    have e : (bytesRow s c).size = s.data.size + (c - s.size) := by unfold bytesRow; simp
    omega
  simp; omega
theorem DiskAt.new {w : World} {g cap n : Nat} {bs : List UInt8} (h : RowAt w g bs) (hn : n = bs.length) (hc : n ≤ cap) (h1 : n ≤ 262144) (h2 : n % 64 = 0) :
    DiskAt (w.alloc (.cells #[.slice (some ⟨g, 0, none⟩) n cap, .bool true, .int .i64 (-1), .int .i64 0, .int .i64 0] 66 (0, 0))) w.heap.size g cap (newD bs) :=
  by subst hn; exact ⟨heap_alloc_new w _, h.same (Below.heap_alloc w _ g h.1), h.1, hc, DS.Ok.new h1 h2⟩

set_option maxHeartbeats 1600000 in
set_option maxRecDepth 100000 in
theorem new_c (n : Int) (w : World) (h0 : -9223372036854775808 ≤ n) (h1 : n ≤ 9223372036854775807) :
    Calls Tryz.prog 22 #[.int .i64 n] w fun e w' => ∃ p g cap, e = .returned (.pointer (some ⟨p, 0, none⟩)) ∧ DiskAt w' p g cap (newD (List.replicate (64 * clampI n 4096) 0)) ∧ Below w.heap.size w w' ∧ w.heap.size ≤ g := by
  have hc := clamp_le n 4096
  obtain ⟨m, hm⟩ : ∃ m : Nat, m = clampI n 4096 := ⟨_, rfl⟩
  have HM := Lib.hid hm
  rw [← hm] at hc ⊢
  clear hm
  go_enter Tryz.func22, Tryz.ntmps22
  go_wp2_with fail
  refine (clamp_c n 4096 _ (by omega) h0 h1).mono ?_
  rintro e w1 ⟨rfl, rfl⟩
  rw [← HM.out]
  have hmk : (Instr.makeSlice 51 (.int .i64 ((m : Int) * 64)) (.int .i64 ((m : Int) * 64))).run Tryz.prog w = .ok (.slice (some ⟨w.heap.size, 0, none⟩) (64 * m) (64 * m)) (w.alloc (.cells (madeCells #[.int .u8 0] (64 * m)) 5)) := by
    rw [show (m : Int) * 64 = ((64 * m : Nat) : Int) by omega]
    exact run_make_row' _ _ _ 1 Tryz.underlying51 Tryz.infoB rfl .i64 .i64 (64 * m) (by omega) (by omega) w
  go_wp2_with fail
  refine (with_c w.heap.size (64 * m) (64 * m) _).mono ?_
  rintro e w1 ⟨rfl, rfl⟩
  go_wp2_with fail
  go_ret
  have hD := DiskAt.new (n := 64 * m) (cap := 64 * m) (bs := List.replicate (64 * m) 0) (zeros_row w (64 * m)) (by simp) (Nat.le_refl _) (by omega) (by omega)
  rw [World.size_alloc] at hD
  exact ⟨_, _, _, rfl, hD, below_two w _ _, Nat.le_refl _⟩

theorem extract_take (T : ByteArray) (i : Nat) : (T.extract 0 i).data.toList = T.data.toList.take i := by
  rw [ByteArray.data_extract, Array.toList_extract]
  rw [List.extract_eq_take_drop]; simp

set_option maxHeartbeats 1600000 in
set_option maxRecDepth 100000 in
theorem dsk_of_c (T : ByteArray) (w : World) (hT : T.size ≤ 9223372036854775807) :
    Calls Tryz.prog 5 #[.string T] w fun e w' => ∃ p g cap, e = .returned (.pointer (some ⟨p, 0, none⟩)) ∧ DiskAt w' p g cap (newD (T.data.toList.take (64 * clampI ((T.size : Int) / 64) 4096))) ∧ Below w.heap.size w w' ∧ w.heap.size ≤ g := by
  have hc := clamp_le ((T.size : Int) / 64) 4096
  have hc2 : 64 * clampI ((T.size : Int) / 64) 4096 ≤ T.size := by unfold clampI; omega
  obtain ⟨m, hm⟩ : ∃ m : Nat, m = clampI ((T.size : Int) / 64) 4096 := ⟨_, rfl⟩
  have HM := Lib.hid hm
  rw [← hm] at hc hc2 ⊢
  clear hm
  have hT0 : (0 : Int) ≤ (T.size : Int) := by omega
  have hT1 : (T.size : Int) ≤ 9223372036854775807 := by omega
  go_enter Tryz.func5, Tryz.ntmps5
  go_wp2_with fail
  refine (clamp_c _ 4096 _ (by omega) (by omega) (by omega)).mono ?_
  rintro e w1 ⟨rfl, rfl⟩
  rw [← HM.out]
  obtain ⟨E, hE⟩ : ∃ E : ByteArray, E = T.extract 0 (m * 64) := ⟨_, rfl⟩
  obtain ⟨c, hcc⟩ : ∃ c, c = grownCap w E.size 0 5 := ⟨_, rfl⟩
  have hcv : (convert 9 51 (.string (T.extract 0 (m * 64)))).run Tryz.prog w = .ok (.slice (some ⟨w.heap.size, 0, none⟩) E.size c) (w.drew.alloc (.cells (bytesRow E c) 5 ((bytesRow E c).size, (bytesRow E c).size + 1))) := by
    rw [hcc, ← hE]; exact run_bytes_of_string w _ _ _ E Tryz.underlying9 Tryz.underlying51 Tryz.underlying5
  have hgc : E.size ≤ c := by rw [hcc]; exact grownCap_ge w E.size 0 _
  have hEl : Hid (E.data.toList = T.data.toList.take (64 * m)) := Lib.hid (by rw [hE, extract_take, Nat.mul_comm])
  have hEs : E.size = 64 * m := by
    have e : E.data.toList.length = E.size := by simp
    rw [← e, hEl.out]; simp; omega
  clear hE hcc
  have hD := DiskAt.new (n := 64 * m) (cap := c) (bs := E.data.toList) (bytes_row w E c) (by rw [← hEs]; simp) (by omega) (by omega) (by omega)
  rw [World.size_alloc, hEl.out] at hD
  have HD := Lib.hid hD.drew; clear hD
  go_wp2_with fail
  refine (with_c _ _ _ _).mono ?_
  rintro e w1 ⟨rfl, rfl⟩
  go_wp2_with fail
  go_ret
  exact ⟨_, _, _, rfl, HD.out, (below_two w _ _).drew, Nat.le_refl _⟩

/-! Writes. -/
theorem heap_setCells (b : Nat) : ∀ (vs : List Value) (o : Nat) (w : World) (k : Nat), k ≠ b → (w.setCells b o vs).heap[k]? = w.heap[k]?
  | [], _, _, _, _ => rfl
  | v :: r, o, w, k, hk => (heap_setCells b r (o + 1) (w.setCell ⟨b, o, none⟩ v) k hk).trans (Below.heap_setCell w ⟨b, o, none⟩ v k hk)
theorem size_setCells (b : Nat) : ∀ (vs : List Value) (o : Nat) (w : World), (w.setCells b o vs).heap.size = w.heap.size
  | [], _, _ => rfl
  | v :: r, o, w => (size_setCells b r (o + 1) (w.setCell ⟨b, o, none⟩ v)).trans (by simp [World.setCell])
theorem rest_setCells (b : Nat) : ∀ (vs : List Value) (o : Nat) (w : World), (w.setCells b o vs).os = w.os ∧ (w.setCells b o vs).tape = w.tape ∧ (w.setCells b o vs).output = w.output
  | [], _, _ => ⟨rfl, rfl, rfl⟩
  | v :: r, o, w => rest_setCells b r (o + 1) (w.setCell ⟨b, o, none⟩ v)
theorem Chg.setCells {p q : Nat} {a w : World} (h : Chg p q a w) {b : Nat} (hb : b = p ∨ b = q) (o : Nat) (vs : List Value) : Chg p q a (w.setCells b o vs) :=
  ⟨(rest_setCells b vs o w).1.trans h.os, (rest_setCells b vs o w).2.1.trans h.tape, (rest_setCells b vs o w).2.2.trans h.output, by rw [size_setCells]; exact h.size, fun k hk h1 h2 => (heap_setCells b vs o w k (by rcases hb with rfl | rfl <;> assumption)).trans (h.block k hk h1 h2)⟩

/-- 'copy(row[o:o+n], s)'. -/
theorem run_copy_str (w : World) (dT sT ty elem : TypeId) (b o dLen dCap : Nat) (s : ByteArray) (hu : Tryz.prog.underlying dT = some (.slice elem)) (hsz : (Tryz.prog.info? elem).map (·.size) = some 1) (hn : s.size ≤ dLen)
    (hc : ∀ j, j < s.size → (w.cell? ⟨b, o + j, none⟩).isSome = true) (hf : ∀ j, j < s.size → w.frozen? ⟨b, o + j, none⟩ = false) :
    (Builtin.copy_ #[dT, sT] ty #[.slice (some ⟨b, o, none⟩) dLen dCap, .string s]).run Tryz.prog w = .ok (goInt s.size) (w.setCells b o (byteVs s.data.toList)) := by
  have hst := run_storeCells_cells (P := Tryz.prog) b o (byteVs s.data.toList) 0 w (by simpa [byteVs] using hc) (by simpa [byteVs] using hf) (by simp only [byteVs, List.mem_map]; rintro _ ⟨_, _, rfl⟩; rfl)
  have hmin : Nat.min s.size dLen = s.size := Nat.min_eq_left hn
  have ht : List.take s.size (List.map (fun b => Value.int .u8 (b.toNat : Int)) s.data.toList) = byteVs s.data.toList := by rw [List.take_of_length_le (by simp)]; rfl
  cases hq : Tryz.prog.info? elem with
  | none => simp [hq] at hsz
  | some i => simp [Builtin.copy_, run_underlying hu, Builtin.lenOf, Builtin.firstCells, sizeOf, typeInfo, hq, hmin, ht, hst]

theorem get_splice {L cs : List UInt8} {o : Nat} (j : Nat) (ho : o + cs.length ≤ L.length) : (splice L o cs)[j]? = if o ≤ j ∧ j - o < cs.length then cs[j - o]? else L[j]? := by
  show (L.take o ++ (cs ++ L.drop (o + cs.length)))[j]? = _
  have hlt : (L.take o).length = o := by simp; omega
  by_cases h1 : j < o
  · rw [List.getElem?_append_left (by omega), if_neg (by omega), List.getElem?_take_of_lt h1]
  · rw [List.getElem?_append_right (by omega), hlt]
    by_cases h2 : j - o < cs.length
    · rw [List.getElem?_append_left h2, if_pos ⟨by omega, h2⟩]
    · rw [List.getElem?_append_right (by omega), if_neg (by omega), List.getElem?_drop]
      congr 1; omega
theorem get_of {L : List UInt8} {j : Nat} {x : UInt8} (h : L[j]? = some x) : ∃ hj : j < L.length, L[j] = x := by
  obtain ⟨h1, h2⟩ := List.getElem?_eq_some_iff.1 h; exact ⟨h1, h2⟩
theorem getElem_splice {L cs : List UInt8} {o j : Nat} (h : j < (splice L o cs).length) (ho : o + cs.length ≤ L.length) :
    (o ≤ j ∧ ∃ h1 : j - o < cs.length, (splice L o cs)[j] = cs[j - o]) ∨ ((j < o ∨ o + cs.length ≤ j) ∧ ∃ h1 : j < L.length, (splice L o cs)[j] = L[j]) := by
  have hk := get_splice j ho
  rw [List.getElem?_eq_getElem h] at hk
  by_cases h1 : o ≤ j ∧ j - o < cs.length
  · rw [if_pos h1] at hk
    obtain ⟨h2, h3⟩ := get_of hk.symm
    exact .inl ⟨h1.1, h2, h3.symm⟩
  · rw [if_neg h1] at hk
    obtain ⟨h2, h3⟩ := get_of hk.symm
    exact .inr ⟨by omega, h2, h3.symm⟩

theorem RowAt.copied {w : World} {g o : Nat} {bs s : List UInt8} (h : RowAt w g bs) (ho : o + s.length ≤ bs.length) : RowAt (w.setCells g o (byteVs s)) g (splice bs o s) := by
  refine ⟨by rw [size_setCells]; exact h.1, fun j hj => ?_⟩
  rw [World.frozen?_setCells]
  rcases getElem_splice hj ho with ⟨h1, h2, h3⟩ | ⟨h1, h2, h3⟩
  · rw [h3]
    have hin := World.cell?_setCells_in g (byteVs s) o w (fun i hi => by
      rw [byteVs_len] at hi
      rw [(h.2 (o + i) (by omega)).1]; rfl) (j - o) (by rw [byteVs_len]; exact h2)
    rw [show o + (j - o) = j by omega] at hin
    refine ⟨hin.trans (by simp [byteVs]), (h.2 j (by omega)).2⟩
  · rw [h3]
    have hout := World.cell?_setCells_out g (byteVs s) o w ⟨g, j, none⟩ (fun _ _ => by rw [byteVs_len]; exact h1)
    exact ⟨hout.trans (h.2 j h2).1, (h.2 j h2).2⟩

/-! Cells of the disk's own block behind a store. -/
theorem set_cells {w : World} {p j : Nat} {cs : Array Value} {t : TypeId} {x : Value} (h : w.heap[p]? = some (.cells cs t (0, 0))) : (w.setCell ⟨p, j, none⟩ x).heap[p]? = some (.cells (cs.setIfInBounds j x) t (0, 0)) := by
  exact heap_setCell_same w p j cs t x h

end Go.Proofs.YtaibmdjcppeopaaGreatDoor
