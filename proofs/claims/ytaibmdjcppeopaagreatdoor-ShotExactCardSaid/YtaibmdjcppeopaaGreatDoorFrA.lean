/- Contracts of package frame's small functions: numbers as bytes and back, the trailer, the number of blocks. Conditions: lengths as the callers have them. -/
import Derived.Test.YtaibmdjcppeopaaGreatDoorFrP
import Derived.Test.YtaibmdjcppeopaaGreatDoorStr
import Derived.Maps.AppendAt
import Derived.LoopTactic
import Derived.Deep.RegionHeld3
import Derived.Deep.QuietTactic
import Derived.BigRegion
import Derived.IntWalk
namespace Go.Proofs.YtaibmdjcppeopaaGreatDoor
open Go Go.RowKit

theorem ret_b {a b : Bool} (h : a = b) : Ending.returned (.bool a) = .returned (.bool b) := by rw [h]
theorem low_byte (x : Nat) : (x : Int) % 256 = ((UInt8.ofNat (x % 256)).toNat : Int) := by rw [ofNat_toNat _ (by omega)]; omega

/-- What a round of lay begins with. -/
def LRel (B n0 k : Nat) (bs : List UInt8) (w : World) (b n i : Value) (wr : World) : Prop :=
  ∃ (j x : Nat) (acc : List UInt8) (v : Value), v = b ∧ n = .int .u32 x ∧ i = .int .i64 j ∧ j ≤ k ∧ x < 4294967296 ∧ wr.ownsRow B 5 1 v acc.length (byteVs acc) ∧ acc ++ leB (k - j) x = bs ++ leB k n0 ∧ acc.length = bs.length + j ∧ Below B w wr
theorem LRel.step {B n0 k j x N : Nat} {bs acc : List UInt8} {w wr w3 : World} {v v' : Value} {cs : Array Value} {t : TypeId} (hj : j < k) (hx : x < 4294967296) (he : acc ++ leB (k - j) x = bs ++ leB k n0) (hl : acc.length = bs.length + j) (hob : ∀ q, v.ownBlock = some q → B ≤ q)
    (hB : B ≤ w.heap.size) (hb : Below B w wr) (hN : N = acc.length + 1) (hown : w3.ownsRow B 5 1 v' N (byteVs acc ++ byteVs [UInt8.ofNat (x % 256)])) (hg : (wr.alloc (.cells cs t)).grownBy w3 v.ownBlock) :
    LRel B n0 k bs w v' (.int .u32 ((x : Int) / 256)) (.int .i64 ((j : Int) + 1)) w3 := by
  subst hN
  refine ⟨j + 1, x / 256, acc ++ [UInt8.ofNat (x % 256)], v', rfl, ret_v (by omega), ret_v (by omega), by omega, by omega, ?_, ?_, by simp; omega, (hb.alloc (Nat.le_trans hB hb.size) _).grown hg (by rw [World.size_alloc]; have := hb.size; omega) hob⟩
  · rw [byteVs_app] at hown; simpa using hown
  · rw [← he, show k - j = (k - (j + 1)) + 1 by omega, leB]; simp

set_option maxHeartbeats 1600000 in
set_option maxRecDepth 100000 in
theorem lay_c (B : Nat) (v : Value) (bs : List UInt8) (n k : Nat) (w : World) (hk : k ≤ 8) (hn : n < 4294967296) (hown : w.ownsRow B 5 1 v bs.length (byteVs bs)) (hB : B ≤ w.heap.size) (hl : bs.length ≤ 100000) :
    Calls Tryz.prog 61 #[v, .int .u32 n, .int .i64 k] w fun e w' => (∃ v', e = .returned v' ∧ w'.ownsRow B 5 1 v' (bs ++ leB k n).length (byteVs (bs ++ leB k n))) ∧ Below B w w' := by
  have HST : Hid (LRel B n k bs w v (.int .u32 n) (.int .i64 0) w) := Lib.hid ⟨0, n, bs, v, rfl, rfl, rfl, Nat.zero_le _, hn, hown, rfl, rfl, Below.refl _ _⟩
  clear hown hn
  go_enter Tryz.func61, Tryz.ntmps61
  go_wp2_with fail
  go_loopw [0, 1, 8] (fun b x i wr => LRel B n k bs w b x i wr) (fun _ _ i _ => k - (intOf i).toNat)
  case atStart => exact HST.out
  case round =>
    obtain ⟨j, x, acc, b, rfl, rfl, rfl, hj, hx, hown, he, hla, hb⟩ := hrel
    clear HST
    obtain ⟨i0, hi, hz0, hz1, hz2⟩ := info_parts Tryz.infoB
    have hob : ∀ q, b.ownBlock = some q → B ≤ q := fun q hq => (hown.lt q hq).1
    have HOB := Lib.hid hob; clear hob
    have HE := Lib.hid he; clear he
    have HX := Lib.hid hx; clear hx
    have hsz := hb.size
    by_cases hjk : j < k
    · have hv := Lib.hid (low_byte x)
      go_wp2_with (first | (at_builtin; refine wpList_append_own_at _ rfl _ _ 51 rfl B 5 i0 _ 1 1 Tryz.underlying51 hi hz0 hz1 hz2 rfl (by decide) _ _ _ rfl (hown.alloc _) ⟨wr.heap.size, 0, none⟩ 1 1 (byteVs [UInt8.ofNat (x % 256)]) rfl rfl ?c1 ?c2 ?c3 ?c4 ?c5 ?_))
      case c1 =>
        intro q u hu
        rw [adr0, World.cell?_alloc_at _ _ _ _ rfl]
        match q, hu with
        | 0, hu => rw [hv.out]; exact hu
      case c2 => intro u hu; simp [byteVs] at hu; subst hu; rfl
      case c3 => unfold maxLen; omega
      case c4 => omega
      case c5 => rw [World.size_alloc]; omega
      intro v' w3 hown' hgrow _ hat
      have hR := Lib.hid (LRel.step hjk HX.out HE.out hla HOB.out hB hb (by omega) hown' hgrow)
      clear hown' hgrow hat hown
      go_wp2_with fail
      go_roundw
      case rel => exact hR.out
      case measure => simp [intOf]; omega
    · have hfin : acc = bs ++ leB k n := by
        have := HE.out
        rw [show k - j = 0 by omega, leB, List.append_nil] at this; exact this
      subst hfin
      have HW := Lib.hid hown; clear hown
      go_wp2_with fail
      go_ret
      exact ⟨⟨_, rfl, HW.out⟩, hb⟩

theorem val_drop (l : List UInt8) (j : Nat) (h : j < l.length) : valB (l.drop j) = l[j].toNat + 256 * valB (l.drop (j + 1)) := by
  rw [List.drop_eq_getElem_cons h, valB]
theorem shl_or (x b : Nat) (hx : x < 16777216) (hb : b < 256) : bits .or .u32 ((x : Int) * 256 % 4294967296) ((b : Int) % 4294967296) = ((b + 256 * x : Nat) : Int) := by
  rw [show (x : Int) * 256 % 4294967296 = ((256 * x : Nat) : Int) by omega, show (b : Int) % 4294967296 = (b : Int) by omega]
  have h : b + 256 * x = 256 * x ||| b := by
    have := Nat.shiftLeft_add_eq_or_of_lt (i := 8) (b := b) (by omega) x
    rw [Nat.shiftLeft_eq] at this
    rw [Nat.mul_comm 256 x, ← this]; omega
  rw [u32_or_nat _ _ (by omega) (by omega), ← h]

set_option maxHeartbeats 1600000 in
theorem number_c (s : ByteArray) (w : World) (hs : s.size ≤ 4) :
    Calls Tryz.prog 77 #[.string s] w fun e w' => e = .returned (.int .u32 (valB s.data.toList)) ∧ w = w' := by
  go_enter Tryz.func77, Tryz.ntmps77
  go_wp2
  go_loop [3, 4] (fun x i => ∃ j : Nat, j ≤ s.size ∧ i = .int .i64 ((j : Int) - 1) ∧ x = .int .u32 (valB (s.data.toList.drop j))) (fun _ i => (intOf i + 1).toNat)
  case atStart => exact ⟨s.size, Nat.le_refl _, rfl, by rw [List.drop_of_length_le (by simp)]; rfl⟩
  case round =>
    obtain ⟨j, hj, rfl, rfl⟩ := hrel
    by_cases h0 : 0 < j
    · have hd := val_drop s.data.toList (j - 1) (by rw [size_len]; omega)
      rw [show j - 1 + 1 = j by omega] at hd
      have hlt : valB (s.data.toList.drop j) < 16777216 := by
        have := valB_lt (s.data.toList.drop j)
        have h2 : (s.data.toList.drop j).length ≤ 3 := by simp; omega
        have h3 : (256 : Nat) ^ (s.data.toList.drop j).length ≤ 256 ^ 3 := Nat.pow_le_pow_right (by omega) h2
        rw [show (256 : Nat) ^ 3 = 16777216 from rfl] at h3
        omega
      have HB := Lib.hid (shl_or (valB (s.data.toList.drop j)) (s.data.toList[j - 1]'(by rw [size_len]; omega)).toNat hlt (UInt8.toNat_lt _))
      rw [← hd] at HB
      clear hlt hd
      go_wp2
      go_round
      case rel => exact ⟨j - 1, by omega, ret_v (by omega), ret_v HB.out⟩
      case measure => simp [intOf]; omega
    · go_wp2
      go_ret
      exact ⟨ret_i (by rw [show j = 0 by omega]; rfl), rfl⟩

/-- A trailer as a value. -/
def trV (seq i n : Nat) : Value := .agg #[.int .u32 (seq : Int), .int .u32 (i : Int), .int .u32 (n : Int)]

set_option maxHeartbeats 1600000 in
set_option maxRecDepth 100000 in
theorem text_c (seq i n : Nat) (w : World) (h1 : seq < 4294967296) (h2 : i < 4294967296) (h3 : n < 4294967296) :
    Calls Tryz.prog 51 #[.agg #[.int .u32 (seq : Int), .int .u32 (i : Int), .int .u32 (n : Int)]] w fun e w' => e = .returned (.string (bst (trailF seq i n))) ∧ Below w.heap.size w w' := by
  have l1 : (leB 4 seq).length = 4 := leB_len 4 seq
  have l2 : (leB 2 i).length = 2 := leB_len 2 i
  go_enter Tryz.func51, Tryz.ntmps51
  go_wp2_with fail
  have a0 : Below w.heap.size w (w.alloc (.cells #[.int .u32 (seq : Int), .int .u32 (i : Int), .int .u32 (n : Int)] 91)) := by (repeat' (first | (with_reducible exact Below.refl _ _) | (with_reducible refine below_drewN ?_ _) | (with_reducible refine Below.drew ?_) | (with_reducible refine Below.alloc ?_ ?_ _) | (with_reducible refine Below.setCell ?_ ?_ _) | (with_reducible refine Below.trans ?_ (Below.mono (by with_reducible assumption) ?_)) | omega | (simp only [World.size_alloc, World.size_setCell, World.size_drew, Go.Proofs.YtaibmdjcppeopaaGreatDoor.World.size_drewN] at *; omega) | (with_reducible refine Below.size (B := 0) ?_)))
  refine (lay_c (w.heap.size + 1) (.slice none 0 0) [] seq 4 _ (by omega) h1 (World.ownsRow_nil _ _ _ _) (by simp) (by simp)).mono ?_
  rintro e w1 ⟨⟨v1, rfl, o1⟩, b1⟩
  have c1 : w1.cell? ⟨w.heap.size, 1, none⟩ = some (.int .u32 (i : Int)) := (b1.cell (p := ⟨w.heap.size, 1, none⟩) (by simp)).trans (by simp)
  have c2 : w1.cell? ⟨w.heap.size, 2, none⟩ = some (.int .u32 (n : Int)) := (b1.cell (p := ⟨w.heap.size, 2, none⟩) (by simp)).trans (by simp)
  have z1 := b1.size
  rw [World.size_alloc] at z1
  rw [List.nil_append] at o1
  have O1 := Lib.hid o1; clear o1
  go_wp2_with fail
  refine (lay_c (w.heap.size + 1) v1 _ i 2 _ (by omega) h2 O1.out (by omega) (by omega)).mono ?_
  rintro e w2 ⟨⟨v2, rfl, o2⟩, b2⟩
  have d2 : w2.cell? ⟨w.heap.size, 2, none⟩ = some (.int .u32 (n : Int)) := (b2.cell (p := ⟨w.heap.size, 2, none⟩) (by simp)).trans c2
  have z2 := b2.size
  have O2 := Lib.hid o2; clear o2 c1 c2
  go_wp2_with fail
  refine (lay_c (w.heap.size + 1) v2 _ n 2 _ (by omega) h3 O2.out (by omega) (by rw [List.length_append]; omega)).mono ?_
  rintro e w3 ⟨⟨v3, rfl, o3⟩, b3⟩
  have hv := conv_own _ _ _ _ _ o3
  clear o3 d2
  go_wp2_with fail
  go_ret
  exact ⟨rfl, (a0.trans ((b1.trans (b2.trans b3)).mono (Nat.le_succ _)))⟩

set_option maxHeartbeats 1600000 in
theorem size_c (n : Nat) (w : World) (hn : n ≤ 1000000) :
    Calls Tryz.prog 49 #[.int .i64 (n : Int)] w fun e w' => e = .returned (.int .i64 (nblk n : Nat)) ∧ w = w' := by
  go_enter Tryz.func49, Tryz.ntmps49
  go_wp2
  go_ret
  exact ⟨ret_i (by unfold nblk; omega), rfl⟩

set_option maxHeartbeats 1600000 in
theorem sizeS_c (s : ByteArray) (w : World) (hn : s.size ≤ 1000000) :
    Calls Tryz.prog 33 #[.string s] w fun e w' => e = .returned (.int .i64 (nblk s.size : Nat)) ∧ w = w' := by
  go_enter Tryz.func33, Tryz.ntmps33
  go_wp2_with (go_at_call 49; (with_reducible refine (size_c _ _ hn).mono ?_); rintro e w1 ⟨rfl, rfl⟩)
  go_ret
  exact ⟨rfl, rfl⟩

/-- Can this be the trailer of a frame's first block? -/
def begB (seq i n : Nat) : Bool := decide (¬ (seq < 1 ∨ 2147483647 < seq ∨ i ≠ 0 ∨ n < 1 ∨ 108 < n))
set_option maxHeartbeats 1600000 in
set_option maxRecDepth 100000 in
theorem begins_c (seq i n : Nat) (w : World) (h1 : seq < 4294967296) (_h2 : i < 4294967296) (h3 : n < 4294967296) :
    Calls Tryz.prog 66 #[.agg #[.int .u32 (seq : Int), .int .u32 (i : Int), .int .u32 (n : Int)]] w fun e w' => e = .returned (.bool (begB seq i n)) ∧ Below w.heap.size w w' := by
  go_enter Tryz.func66, Tryz.ntmps66
  go_wp2
  all_goals (go_ret; refine ⟨ret_b ?_, by (repeat' (first | (with_reducible exact Below.refl _ _) | (with_reducible refine below_drewN ?_ _) | (with_reducible refine Below.drew ?_) | (with_reducible refine Below.alloc ?_ ?_ _) | (with_reducible refine Below.setCell ?_ ?_ _) | (with_reducible refine Below.trans ?_ (Below.mono (by with_reducible assumption) ?_)) | omega | (simp only [World.size_alloc, World.size_setCell, World.size_drew, Go.Proofs.YtaibmdjcppeopaaGreatDoor.World.size_drewN] at *; omega) | (with_reducible refine Below.size (B := 0) ?_)))⟩; first | exact (decide_eq_true (by omega)).symm | exact (decide_eq_false (by omega)).symm | (unfold begB; rw [decide_eq_decide]; omega))

/-- A slice of strings reads as a list; its cells lie below block B. -/
def SRow (w : World) (B : Nat) (A : Option Addr) (zs : List ByteArray) : Prop := 0 < zs.length → ∃ a, A = some a ∧ a.block < B ∧ ∀ i z, zs[i]? = some z → w.cell? (a.add i) = some (.string z)
theorem block_addS (a : Addr) (n : Nat) : (a.add n).block = a.block := by unfold Addr.add; split <;> rfl
theorem SRow.below {w w' : World} {B B' : Nat} {A : Option Addr} {zs : List ByteArray} (h : SRow w B A zs) (hb : Below B' w w') (hB : B ≤ B') : SRow w' B A zs := fun h0 => by
  obtain ⟨a, e, hl, hc⟩ := h h0
  exact ⟨a, e, hl, fun i z hz => (hb.cell (p := a.add i) (by rw [block_addS]; omega)).trans (hc i z hz)⟩
theorem SRow.cell {w : World} {B i : Nat} {A : Option Addr} {zs : List ByteArray} {z : ByteArray} (h : SRow w B A zs) (hi : zs[i]? = some z) : ∃ a, A = some a ∧ a.block < B ∧ w.cell? (a.add i) = some (.string z) := by
  obtain ⟨a, e, hl, hc⟩ := h (Nat.lt_of_le_of_lt (Nat.zero_le _) (List.getElem?_eq_some_iff.1 hi).1)
  exact ⟨a, e, hl, hc i z hi⟩
theorem SRow.take {w : World} {B : Nat} {A : Option Addr} {zs : List ByteArray} (h : SRow w B A zs) (n : Nat) : SRow w B A (zs.take n) := fun h0 => by
  obtain ⟨a, e, hl, hc⟩ := h (by simp at h0; omega)
  refine ⟨a, e, hl, fun i z hz => hc i z ?_⟩
  rw [List.getElem?_take] at hz
  split at hz
  · exact hz
  · cases hz
/-- The bytes of a row of strings. -/
def rows (l : List ByteArray) : List (List UInt8) := l.map fun s => s.data.toList
theorem rows_get (l : List ByteArray) (i : Nat) : (rows l)[i]? = (l[i]?).map fun s => s.data.toList := by simp [rows]
theorem rows_len (l : List ByteArray) : (rows l).length = l.length := by simp [rows]

theorem ret_tr {a b : Value} {x y : Bool} (h : a = b) (k : x = y) : Ending.returned (.tuple #[a, .bool x]) = .returned (.tuple #[b, .bool y]) := by rw [h, k]
set_option maxHeartbeats 1600000 in
set_option maxRecDepth 100000 in
/-- There is no such block. -/
theorem trailerOf_none (_B c : Nat) (A : Option Addr) (l : List ByteArray) (i : Nat) (w : World) (_hl : l.length ≤ 9223372036854775807) (hi : l.length ≤ i) :
    Calls Tryz.prog 65 #[.slice A l.length c, .int .i64 (i : Int)] w fun e w' => e = .returned (.tuple #[.agg #[.int .u32 0, .int .u32 0, .int .u32 0], .bool false]) ∧ Below w.heap.size w w' := by
  go_enter Tryz.func65, Tryz.ntmps65
  go_wp2
  refine bodyPost_ret (v := .tuple #[.agg #[.int .u32 0, .int .u32 0, .int .u32 0], .bool false]) (by simp [results, Tryz.results65, go_sem]) rfl ⟨rfl, by (repeat' (first | (with_reducible exact Below.refl _ _) | (with_reducible refine below_drewN ?_ _) | (with_reducible refine Below.drew ?_) | (with_reducible refine Below.alloc ?_ ?_ _) | (with_reducible refine Below.setCell ?_ ?_ _) | (with_reducible refine Below.trans ?_ (Below.mono (by with_reducible assumption) ?_)) | omega | (simp only [World.size_alloc, World.size_setCell, World.size_drew, Go.Proofs.YtaibmdjcppeopaaGreatDoor.World.size_drewN] at *; omega) | (with_reducible refine Below.size (B := 0) ?_)))⟩

set_option maxHeartbeats 1600000 in
set_option maxRecDepth 100000 in
/-- It has not as many bytes as a block has. -/
theorem trailerOf_bad (B c : Nat) (A : Option Addr) (l : List ByteArray) (i : Nat) (z : ByteArray) (w : World) (_hl : l.length ≤ 9223372036854775807) (h : SRow w B A l) (hB : B ≤ w.heap.size) (hi : l[i]? = some z) (hz : z.size ≠ 64) :
    Calls Tryz.prog 65 #[.slice A l.length c, .int .i64 (i : Int)] w fun e w' => e = .returned (.tuple #[.agg #[.int .u32 0, .int .u32 0, .int .u32 0], .bool false]) ∧ Below w.heap.size w w' := by
  have hil := (List.getElem?_eq_some_iff.1 hi).1
  obtain ⟨a, rfl, ha, hc⟩ := h.cell hi
  have hb : (a.add i).block < w.heap.size := by rw [block_addS]; omega
  have hzi : ((z.size : Int) != 64) = true := by rw [bne_iff_ne]; omega
  clear h
  go_enter Tryz.func65, Tryz.ntmps65
  go_wp2
  refine bodyPost_ret (v := .tuple #[.agg #[.int .u32 0, .int .u32 0, .int .u32 0], .bool false]) (by simp [results, Tryz.results65, go_sem]) rfl ⟨rfl, by (repeat' (first | (with_reducible exact Below.refl _ _) | (with_reducible refine below_drewN ?_ _) | (with_reducible refine Below.drew ?_) | (with_reducible refine Below.alloc ?_ ?_ _) | (with_reducible refine Below.setCell ?_ ?_ _) | (with_reducible refine Below.trans ?_ (Below.mono (by with_reducible assumption) ?_)) | omega | (simp only [World.size_alloc, World.size_setCell, World.size_drew, Go.Proofs.YtaibmdjcppeopaaGreatDoor.World.size_drewN] at *; omega) | (with_reducible refine Below.size (B := 0) ?_)))⟩

theorem num_at (t : ByteArray) (i j : Nat) (W : World) (k : Nat) (hij : i ≤ j) (hj : j ≤ t.size) (h4 : j - i ≤ 4) (hk : valB ((t.data.toList.drop i).take (j - i)) = k) :
    Calls Tryz.prog 77 #[.string (t.extract i j)] W fun e w' => e = .returned (.int .u32 (k : Int)) ∧ W = w' := by
  have h := number_c (t.extract i j) W (by rw [cut_size _ _ _ hij hj]; exact h4)
  rw [cut_list, hk] at h
  exact h

set_option maxHeartbeats 3200000 in
set_option maxRecDepth 100000 in
/-- A block with as many bytes as a block has. -/
theorem trailerOf_ok (B c : Nat) (A : Option Addr) (l : List ByteArray) (i : Nat) (z : ByteArray) (w : World) (_hl : l.length ≤ 9223372036854775807) (h : SRow w B A l) (hB : B ≤ w.heap.size) (hi : l[i]? = some z) (hz : z.size = 64) :
    Calls Tryz.prog 65 #[.slice A l.length c, .int .i64 (i : Int)] w fun e w' => e = .returned (.tuple #[trV (seqOf z.data.toList) (idxOf z.data.toList) (cntOf z.data.toList), .bool true]) ∧ Below w.heap.size w w' := by
  have hil := (List.getElem?_eq_some_iff.1 hi).1
  obtain ⟨a, rfl, ha, hc⟩ := h.cell hi
  have hb : (a.add i).block < w.heap.size := by rw [block_addS]; omega
  have hzi : (z.size : Int) = 64 := by omega
  obtain ⟨t, ht⟩ : ∃ t, z.extract 56 z.size = t := ⟨_, rfl⟩
  have hts : t.size = 8 := by rw [← ht, cut_size _ _ _ (by omega) (Nat.le_refl _)]; omega
  have htl : t.data.toList = z.data.toList.drop 56 := by rw [← ht, cut_list, List.take_of_length_le (by simp)]
  obtain ⟨q, hq⟩ : ∃ q, seqOf z.data.toList = q := ⟨_, rfl⟩
  obtain ⟨x, hx⟩ : ∃ x, idxOf z.data.toList = x := ⟨_, rfl⟩
  obtain ⟨n, hn⟩ : ∃ n, cntOf z.data.toList = n := ⟨_, rfl⟩
  have e1 : ∀ W, _ := fun W => num_at t 0 4 W q (by omega) (by omega) (by omega) (by rw [htl, ← hq]; rfl)
  have e2 : ∀ W, _ := fun W => num_at t 4 6 W x (by omega) (by omega) (by omega) (by rw [htl, List.drop_drop, ← hx]; rfl)
  have e3 : ∀ W, _ := fun W => num_at t 6 8 W n (by omega) (by omega) (by omega) (by rw [htl, List.drop_drop, ← hn]; rfl)
  have E1 := Lib.hid e1; clear e1
  have E2 := Lib.hid e2; clear e2
  have E3 := Lib.hid e3; clear e3
  rw [hq, hx, hn]
  clear hq hx hn htl
  have hzt := hz
  rw [hz] at ht
  have t4 : (4 : Int) ≤ (t.size : Int) := by omega
  have t6 : (6 : Int) ≤ (t.size : Int) := by omega
  clear h
  go_enter Tryz.func65, Tryz.ntmps65
  go_wp2_with fail
  go_region_with (go_at_call 77; (first | (with_reducible refine (E1.out _).mono ?_) | (with_reducible refine (E2.out _).mono ?_) | (with_reducible refine (E3.out _).mono ?_)); rintro e w5 ⟨rfl, rfl⟩)
  all_goals go_wp2_with fail
  trace_state
  all_goals refine bodyPost_ret (v := .tuple #[.agg #[.int .u32 q, .int .u32 x, .int .u32 n], .bool true]) (by simp [results, Tryz.results65, go_sem]) rfl ⟨rfl, by (repeat' (first | (with_reducible exact Below.refl _ _) | (with_reducible refine below_drewN ?_ _) | (with_reducible refine Below.drew ?_) | (with_reducible refine Below.alloc ?_ ?_ _) | (with_reducible refine Below.setCell ?_ ?_ _) | (with_reducible refine Below.trans ?_ (Below.mono (by with_reducible assumption) ?_)) | omega | (simp only [World.size_alloc, World.size_setCell, World.size_drew, Go.Proofs.YtaibmdjcppeopaaGreatDoor.World.size_drewN] at *; omega) | (with_reducible refine Below.size (B := 0) ?_)))⟩
end Go.Proofs.YtaibmdjcppeopaaGreatDoor
