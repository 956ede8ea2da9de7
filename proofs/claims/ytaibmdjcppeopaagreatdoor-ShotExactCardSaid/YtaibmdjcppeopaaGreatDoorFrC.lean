/- Contracts of package frame: a Fault, the payload of a text, the blocks of a text. Conditions: the sentinels lie as the program's text lays them; lengths as the callers have them. -/
import Derived.Test.YtaibmdjcppeopaaGreatDoorFrA
import Derived.Test.YtaibmdjcppeopaaGreatDoorFlt
import Derived.Test.YtaibmdjcppeopaaGreatDoorCk
import Derived.Test.YtaibmdjcppeopaaGreatDoorShelf
import Derived.Laws.MakeOwn
import Derived.Deep.OwnRows
namespace Go.Proofs.YtaibmdjcppeopaaGreatDoor
open Go Go.RowKit

def opFrame : ByteArray := ⟨#[102, 114, 97, 109, 101]⟩
set_option maxHeartbeats 1600000 in
set_option maxRecDepth 100000 in
theorem fault_c (s : Nat → Addr) (at_ : Nat) (w : World) (hs : Sent s w) :
    Calls Tryz.prog 67 #[.int .i64 (at_ : Int)] w fun e w' => (∃ ev, e = .returned ev ∧ FaultV s w' opFrame at_ ev) ∧ Below w.heap.size w w' := by
  have hg := hs.cell 2 (by omega)
  simp only [gnum, List.getD_cons_zero, List.getD_cons_succ] at hg
  go_enter Tryz.func67, Tryz.ntmps67
  go_wp2
  go_ret
  exact ⟨⟨_, rfl, ⟨_, rfl, heap_alloc_new w _⟩⟩, by (repeat' (first | (with_reducible exact Below.refl _ _) | (with_reducible refine below_drewN ?_ _) | (with_reducible refine Below.drew ?_) | (with_reducible refine Below.alloc ?_ ?_ _) | (with_reducible refine Below.setCell ?_ ?_ _) | (with_reducible refine Below.trans ?_ (Below.mono (by with_reducible assumption) ?_)) | omega | (simp only [World.size_alloc, World.size_setCell, World.size_drew, Go.Proofs.YtaibmdjcppeopaaGreatDoor.World.size_drewN] at *; omega) | (with_reducible refine Below.size (B := 0) ?_)))⟩

theorem repeatL_one (c : UInt8) : ∀ n, Lib.repeatL [c] n = List.replicate n c
  | 0 => rfl
  | n + 1 => by rw [Lib.repeatL, repeatL_one c n]; rfl
theorem pay_is (d : ByteArray) (k : Nat) (hk : k = 56 * nblk d.size - (d.size + 8)) : bst (leB 4 d.size ++ leB 4 (crcN d.data.toList)) ++ d ++ bst (List.replicate k 0) = bst (payF d.data.toList) := by
  refine bst_ext ?_
  unfold payF
  rw [ByteArray.data_append, ByteArray.data_append, Array.toList_append, Array.toList_append, bst_list, bst_list, size_len, hk]
  rfl

set_option maxHeartbeats 3200000 in
set_option maxRecDepth 100000 in
theorem pack_c (d : ByteArray) (w : World) (hd : d.size ≤ 6000) :
    Calls Tryz.prog 50 #[.string d] w fun e w' => e = .returned (.string (bst (payF d.data.toList))) ∧ Below w.heap.size w w' := by
  have l1 : (leB 4 d.size).length = 4 := leB_len 4 d.size
  have l2 : (leB 4 (crcN d.data.toList)).length = 4 := leB_len 4 _
  have hcrc := crcN_lt d.data.toList
  rw [show (256 : Nat) ^ 4 = 4294967296 from rfl] at hcrc
  have hmore : moreI 1 d.data.toList = ((crcN d.data.toList : Nat) : Int) := by
    have := (moreI_bd d.data.toList 1 (by unfold U32; omega)); unfold U32 at this; unfold crcN; omega
  have hsum := fun W => sum_of_c d W (by omega)
  rw [hmore] at hsum
  obtain ⟨c, hc⟩ : ∃ c, crcN d.data.toList = c := ⟨_, rfl⟩
  obtain ⟨k, hk⟩ : ∃ k, k = 56 * nblk d.size - (d.size + 8) := ⟨_, rfl⟩
  have HP := Lib.hid (pay_is d k hk)
  rw [hc] at HP hsum hcrc l2
  have HS := Lib.hid hsum; clear hsum hmore hc
  have hn8 : d.size + 8 ≤ 56 * nblk d.size := by unfold nblk; omega
  have hnb : nblk d.size ≤ 108 := by unfold nblk; omega
  have hki : ((nblk d.size : Nat) : Int) * 56 - 8 - (d.size : Int) = (k : Int) := by omega
  go_enter Tryz.func50, Tryz.ntmps50
  go_wp2_with fail
  refine (lay_c w.heap.size (.slice none 0 0) [] d.size 4 _ (by omega) (by omega) (World.ownsRow_nil _ _ _ _) (Nat.le_refl _) (by simp)).mono ?_
  rintro e w1 ⟨⟨v1, rfl, o1⟩, b1⟩
  rw [List.nil_append] at o1
  have O1 := Lib.hid o1; clear o1
  go_wp2_with fail
  refine (HS.out _).mono ?_
  rintro e w1' ⟨rfl, rfl⟩
  go_wp2_with fail
  refine (lay_c w.heap.size v1 _ c 4 _ (by omega) hcrc O1.out b1.size (by omega)).mono ?_
  rintro e w2 ⟨⟨v2, rfl, o2⟩, b2⟩
  have b02 := b1.trans b2
  have O2 := Lib.hid o2; clear o2 b1 b2
  go_wp2_with fail
  refine (sizeS_c d _ (by omega)).mono ?_
  rintro e w2' ⟨rfl, rfl⟩
  obtain ⟨X, hX⟩ : ∃ X, bst (leB 4 d.size ++ leB 4 c) = X := ⟨_, rfl⟩
  obtain ⟨Y, hY⟩ : ∃ Y, bst (List.replicate k 0) = Y := ⟨_, rfl⟩
  have HC : Hid (∀ W, Below w2.heap.size w2 W → ((convert 51 9 v2).run Tryz.prog W = .ok (.string X) W ∧ Below w2.heap.size w2 W)) := Lib.hid fun W hW => by
    refine ⟨?_, hW⟩
    rw [← hX]
    exact conv_own W w.heap.size _ _ v2 (own_same O2.out fun g hg => hW.block g (O2.out.lt g hg).2)
  have HR : Hid (∀ W, Calls Tryz.prog 59 #[.string ⟨#[0]⟩, .int .i64 (k : Int)] W fun e w' => e = .returned (.string Y) ∧ Below W.heap.size W w') := Lib.hid fun W => by
    have h := repeat_c ⟨#[0]⟩ k W (by omega) (by show 1 * k ≤ _; omega)
    rw [show (⟨#[0]⟩ : ByteArray).data.toList = [0] from rfl, repeatL_one] at h
    rw [← hY]
    exact h
  have xs : X.size = 8 := by rw [← hX, bst_size, List.length_append]; omega
  have ys : Y.size = k := by rw [← hY, bst_size, List.length_replicate]
  have hz1 : ¬ 9223372036854775807 < 8 + d.size := by omega
  have hz2 : ¬ 9223372036854775807 < 8 + d.size + k := by omega
  rw [hX, hY] at HP
  have HK := Lib.hid hk
  clear hk hX hY
  go_wp2_with fail
  go_region_held3 (fun w' => (convert 51 9 v2).run Tryz.prog w' = .ok (.string X) w' ∧ Below w2.heap.size w2 w')
    (exact HC.out _ (by (repeat' (first | (with_reducible exact Below.refl _ _) | (with_reducible refine below_drewN ?_ _) | (with_reducible refine Below.drew ?_) | (with_reducible refine Below.alloc ?_ ?_ _) | (with_reducible refine Below.setCell ?_ ?_ _) | (with_reducible refine Below.trans ?_ (Below.mono (by with_reducible assumption) ?_)) | omega | (simp only [World.size_drew] at *; omega) | (with_reducible refine Below.size (B := 0) ?_)))))
    (first | (go_at_call 59; (with_reducible refine (HR.out _).mono ?_); rintro e w5 ⟨rfl, b5⟩))
  all_goals go_wp2_with fail
  all_goals go_ret
  all_goals exact ⟨ret_str HP.out, by (repeat' (first | (with_reducible exact Below.refl _ _) | (with_reducible refine below_drewN ?_ _) | (with_reducible refine Below.drew ?_) | (with_reducible refine Below.alloc ?_ ?_ _) | (with_reducible refine Below.setCell ?_ ?_ _) | (with_reducible refine Below.trans ?_ (Below.mono (by with_reducible assumption) ?_)) | omega | (simp only [World.size_drew] at *; omega) | (with_reducible refine Below.size (B := 0) ?_)))⟩

theorem Tryz.infoS : (Tryz.prog.info? 9).map (fun i => (i.zero, i.size, i.bytes)) = some (some (.string ⟨#[]⟩), 1, 16) := by kernel_rfl

set_option maxHeartbeats 1600000 in
set_option maxRecDepth 100000 in
/-- No frame has this number, or this text. -/
theorem blocks_bad (s : Nat → Addr) (q : Int) (d : ByteArray) (w : World) (hs : Sent s w) (hd : d.size ≤ 9223372036854775807) (h : q < 1 ∨ 2147483647 < q ∨ 6000 < d.size) :
    Calls Tryz.prog 34 #[.int .i64 q, .string d] w fun e w' => e = .returned (.tuple #[.slice none 0 0, .iface 157 (.pointer (some (s 0)))]) ∧ Below w.heap.size w w' := by
  have hg := hs.cell 0 (by omega)
  simp only [gnum, List.getD_cons_zero] at hg
  clear hs
  go_enter Tryz.func34, Tryz.ntmps34
  go_wp2_with fail
  all_goals first | (go_region; all_goals go_wp2_with fail; all_goals go_ret2; all_goals exact ⟨rfl, by (repeat' (first | (with_reducible exact Below.refl _ _) | (with_reducible refine below_drewN ?_ _) | (with_reducible refine Below.drew ?_) | (with_reducible refine Below.alloc ?_ ?_ _) | (with_reducible refine Below.setCell ?_ ?_ _) | (with_reducible refine Below.trans ?_ (Below.mono (by with_reducible assumption) ?_)) | omega | (simp only [World.size_alloc, World.size_setCell, World.size_drew, Go.Proofs.YtaibmdjcppeopaaGreatDoor.World.size_drewN] at *; omega) | (with_reducible refine Below.size (B := 0) ?_)))⟩) | (exfalso; omega)

/-- The cells of a row of strings. -/
def strVs (l : List (List UInt8)) : List Value := l.map fun b => .string (bst b)
theorem strVs_len (l : List (List UInt8)) : (strVs l).length = l.length := by simp [strVs]
theorem strVs_get (l : List (List UInt8)) (i : Nat) : (strVs l)[i]? = (l[i]?).map fun b => .string (bst b) := by simp [strVs]
theorem fill_step {F : List Value} {n j : Nat} {z v : Value} (hn : F.length = n) (hj : F[j]? = some v) : (F.take j ++ List.replicate (n - j) z).set j v = F.take (j + 1) ++ List.replicate (n - (j + 1)) z := by
  have hl := (List.getElem?_eq_some_iff.1 hj).1
  rw [List.set_append_right _ _ (by simp; omega), List.take_add_one, hj]
  simp only [List.length_take, Nat.min_eq_left (Nat.le_of_lt hl), Nat.sub_self]
  rw [show n - j = (n - (j + 1)) + 1 by omega, List.replicate_succ, List.set_cons_zero]
  simp
theorem fill_free {F : List Value} {n j : Nat} {z : Value} (hn : F.length = n) (hj : j < n) : (F.take j ++ List.replicate (n - j) z)[j]? = some z := by
  rw [List.getElem?_append_right (by simp; omega), List.getElem?_replicate, if_pos (by simp; omega)]
/-- A row of cells at block g. -/
def RowV (w : World) (g : Nat) (l : List Value) : Prop := w.heap[g]? = some (.cells l.toArray 9 (0, 0))
theorem RowV.below {w w' : World} {g B : Nat} {l : List Value} (h : RowV w g l) (hb : Below B w w') (hg : g < B) : RowV w' g l := (hb.block g hg).trans h
theorem RowV.cell {w : World} {g j : Nat} {l : List Value} {v : Value} (h : RowV w g l) (hj : l[j]? = some v) : w.cell? ⟨g, j, none⟩ = some v := (cell_of_heap h j).trans (by simpa using hj)
theorem RowV.free {w : World} {g : Nat} {l : List Value} (h : RowV w g l) (j : Nat) : w.frozen? ⟨g, j, none⟩ = false := frozen_of_heap h j
theorem RowV.lt {w : World} {g : Nat} {l : List Value} (h : RowV w g l) : g < w.heap.size := (Array.getElem?_eq_some_iff.1 h).1
theorem RowV.set {w : World} {g : Nat} {l : List Value} (h : RowV w g l) (j : Nat) (v : Value) : RowV (w.setCell ⟨g, j, none⟩ v) g (l.set j v) := by
  have := heap_setCell_same w g j _ _ v h
  rwa [List.setIfInBounds_toArray] at this
/-- A row of cells, as a slice of strings. -/
theorem RowV.srow {w : World} {g B : Nat} {F : List (List UInt8)} (h : RowV w g (strVs F)) (hg : g < B) : SRow w B (some ⟨g, 0, none⟩) (F.map bst) := fun _ =>
  ⟨_, rfl, hg, fun i z hz => by
    rw [adr0]
    refine h.cell ?_
    rw [strVs_get]
    rw [List.getElem?_map] at hz
    cases hF : F[i]? with
    | none => rw [hF] at hz; cases hz
    | some b => rw [hF] at hz; simp at hz; simp [hz]⟩
theorem rows_bst (F : List (List UInt8)) : rows (F.map bst) = F := by
  unfold rows; rw [List.map_map]
  exact List.map_id'' (fun l => rfl) F

theorem trailF_mod (seq i n : Nat) (h1 : seq < 4294967296) (h2 : i < 4294967296) (h3 : n < 4294967296) : ((seq : Int) % 4294967296 = seq) ∧ ((i : Int) % 4294967296 = i) ∧ ((n : Int) % 4294967296 = n) := by omega
theorem blk_is {P : List UInt8} {q j n : Nat} (_h : 56 * j + 56 ≤ P.length) : (bst P).extract (j * 56) ((j + 1) * 56) ++ bst (trailF q j n) = bst (blkF q n P j) := by
  rw [bst_cut, bst_cat, show (j + 1) * 56 - j * 56 = 56 by omega, Nat.mul_comm j 56]; rfl
/-- What a round of the loop over the blocks begins with. -/
def BRel (w : World) (g q : Nat) (d : List UInt8) (i : Value) (wr : World) : Prop :=
  ∃ j : Nat, i = .int .i64 j ∧ j ≤ nblk d.length ∧ RowV wr g ((strVs (framesF q d)).take j ++ List.replicate (nblk d.length - j) (.string ⟨#[]⟩)) ∧ Below w.heap.size w wr
theorem BRel.step {w wr w3 : World} {g q j : Nat} {d : List UInt8} {z : ByteArray} (hj : j < nblk d.length) (hr : RowV wr g ((strVs (framesF q d)).take j ++ List.replicate (nblk d.length - j) (.string ⟨#[]⟩))) (hb : Below w.heap.size w wr) (hg : w.heap.size ≤ g)
    (h3 : Below wr.heap.size wr w3) (hz : z = bst (blkF q (nblk d.length) (payF d) j)) : BRel w g q d (.int .i64 ((j : Int) + 1)) (w3.setCell ⟨g, j, none⟩ (.string z)) := by
  refine ⟨j + 1, ret_v (by omega), by omega, ?_, (hb.trans (h3.mono hb.size)).setCell hg _⟩
  have h := (hr.below h3 hr.lt).set j (.string z)
  rwa [fill_step (by rw [strVs_len, framesF_len]) (by rw [strVs_get, framesF_get q d j hj, hz]; rfl)] at h

theorem BRel.drew {w wr : World} {g q : Nat} {d : List UInt8} {i : Value} (h : BRel w g q d i wr) : BRel w g q d i wr.drew := by
  obtain ⟨j, h1, h2, h3, h4⟩ := h
  exact ⟨j, h1, h2, h3, h4.drew⟩
theorem BRel.drewN {w wr : World} {g q : Nat} {d : List UInt8} {i : Value} (h : BRel w g q d i wr) (n : Nat) : BRel w g q d i (wr.drewN n) := by
  obtain ⟨j, h1, h2, h3, h4⟩ := h
  exact ⟨j, h1, h2, h3, below_drewN h4 n⟩
theorem BRel.fin {wr : World} {g q j : Nat} {d : List UInt8} (hj : ¬ j < nblk d.length) (hr : RowV wr g ((strVs (framesF q d)).take j ++ List.replicate (nblk d.length - j) (.string ⟨#[]⟩))) (hj2 : j ≤ nblk d.length) : RowV wr g (strVs (framesF q d)) := by
  obtain rfl : j = nblk d.length := by omega
  rwa [Nat.sub_self, List.replicate_zero, List.append_nil, List.take_of_length_le (by rw [strVs_len, framesF_len]; exact Nat.le_refl _)] at hr

set_option maxHeartbeats 3200000 in
set_option maxRecDepth 100000 in
/-- The blocks of a text. -/
theorem blocks_ok (q : Nat) (d : ByteArray) (w : World) (h1 : 1 ≤ q) (h2 : q ≤ 2147483647) (hd : d.size ≤ 6000) :
    Calls Tryz.prog 34 #[.int .i64 (q : Int), .string d] w fun e w' => (∃ g, e = .returned (.tuple #[.slice (some ⟨g, 0, none⟩) (nblk d.size) (nblk d.size), .nilIface]) ∧ RowV w' g (strVs (framesF q d.data.toList)) ∧ w.heap.size ≤ g) ∧ Below w.heap.size w w' := by
  obtain ⟨L, hL⟩ : ∃ L, d.data.toList = L := ⟨_, rfl⟩
  have hsl : d.size = L.length := by rw [← hL, size_len]
  have hpl := payF_len L
  obtain ⟨X, hX⟩ : ∃ X, bst (payF L) = X := ⟨_, rfl⟩
  obtain ⟨n, hn⟩ : ∃ n, nblk L.length = n := ⟨_, rfl⟩
  have xs : X.size = n * 56 := by rw [← hX, bst_size, hpl, hn, Nat.mul_comm]
  have hn1 : 1 ≤ n ∧ n ≤ 108 := by rw [← hn]; unfold nblk; omega
  have HP := fun W => pack_c d W hd
  rw [hL, hX] at HP
  have HP' := Lib.hid HP; clear HP
  have HS := fun W => sizeS_c d W (by omega)
  rw [hsl, hn] at HS
  have HS' := Lib.hid HS; clear HS
  have hmk : ∀ W : World, (Instr.makeSlice 22 (.int .i64 (n : Int)) (.int .i64 (n : Int))).run Tryz.prog W = .ok (.slice (some ⟨W.heap.size, 0, none⟩) n n) (W.alloc (.cells (madeCells #[.string ⟨#[]⟩] n) 9)) := fun W =>
    run_make_row' _ _ _ 16 Tryz.underlying22 Tryz.infoS rfl .i64 .i64 n (by omega) (by omega) W
  have q0 : ¬ ((q : Int) < 1) := by omega
  have q1 : ¬ (2147483647 < (q : Int)) := by omega
  have d1 : ¬ (6000 < (d.size : Int)) := by omega
  rw [hsl, hn, hL]
  go_enter Tryz.func34, Tryz.ntmps34
  go_wp2_with fail
  refine (HP'.out _).mono ?_
  rintro e w1 ⟨rfl, b1⟩
  go_wp2_with fail
  refine (HS'.out _).mono ?_
  rintro e w1' ⟨rfl, rfl⟩
  have hmk1 := hmk w1
  have hst : BRel w w1.heap.size q L (.int .i64 0) (w1.alloc (.cells (madeCells #[.string ⟨#[]⟩] n) 9)) := by
    refine ⟨0, rfl, Nat.zero_le _, ?_, b1.alloc b1.size _⟩
    show (w1.alloc _).heap[w1.heap.size]? = _
    rw [heap_alloc_new, List.take_zero, List.nil_append, Nat.sub_zero, hn, ← toList_madeCells_one]
  have HST := Lib.hid hst; clear hst hmk
  have Z1 := Lib.hid b1.size; clear b1
  go_wp2_with fail
  go_loopw [29] (fun i wr => BRel w w1.heap.size q L i wr) (fun i _ => n - (intOf i).toNat)
  case atStart => exact HST.out
  case round =>
    obtain ⟨j, rfl, hj, hr, hb⟩ := hrel
    clear HST hmk1
    by_cases hjn : j < n
    · have j0 : (0 : Int) ≤ (j : Int) := by omega
      have j1 : (j : Int) < (n : Int) := by omega
      obtain ⟨m1, m2, m3⟩ := trailF_mod q j n (by omega) (by omega) (by omega)
      have hgl := hr.lt
      have HSS : Hid (∀ W, Below (wr.heap.size + 1) (wr.alloc (.cells #[.int .u32 (q : Int), .int .u32 (j : Int), .int .u32 (n : Int)] 91)) W → (W.cell? ⟨wr.heap.size, 0, none⟩ = some (.int .u32 (q : Int)) ∧ W.cell? ⟨wr.heap.size, 1, none⟩ = some (.int .u32 (j : Int)) ∧ W.cell? ⟨wr.heap.size, 2, none⟩ = some (.int .u32 (n : Int)) ∧ W.cell? ⟨w1.heap.size, j, none⟩ = some (.string ⟨#[]⟩) ∧ W.frozen? ⟨w1.heap.size, j, none⟩ = false ∧ Below (wr.heap.size + 1) (wr.alloc (.cells #[.int .u32 (q : Int), .int .u32 (j : Int), .int .u32 (n : Int)] 91)) W)) := Lib.hid fun W h => by
        have h0 : RowV W w1.heap.size _ := (hr.below ((Below.refl _ _).alloc (Nat.le_refl _) _) hr.lt).below h (by omega)
        exact ⟨(h.cell (p := ⟨wr.heap.size, 0, none⟩) (by simp)).trans (by simp), (h.cell (p := ⟨wr.heap.size, 1, none⟩) (by simp)).trans (by simp), (h.cell (p := ⟨wr.heap.size, 2, none⟩) (by simp)).trans (by simp), h0.cell (fill_free (by rw [strVs_len, framesF_len]) (by omega)), h0.free j, h⟩
      obtain ⟨Y, hY⟩ : ∃ Y, bst (trailF q j n) = Y := ⟨_, rfl⟩
      have ys : Y.size = 8 := by rw [← hY, bst_size, trailF_len]
      have HT : Hid (∀ W, Calls Tryz.prog 51 #[.agg #[.int .u32 (q : Int), .int .u32 (j : Int), .int .u32 (n : Int)]] W fun e w' => e = .returned (.string Y) ∧ Below W.heap.size W w') := Lib.hid fun W => by
        have h := text_c q j n W (by omega) (by omega) (by omega)
        rw [hY] at h; exact h
      have hz : X.extract (j * 56) ((j + 1) * 56) ++ Y = bst (blkF q (nblk L.length) (payF L) j) := by
        rw [← hX, ← hY, ← hn]; exact blk_is (by rw [hpl]; omega)
      have HZ := Lib.hid hz; clear hz
      have hjL : j < nblk L.length := by omega
      have HR : Hid (∀ W, Below (wr.heap.size + 1) (wr.alloc (.cells #[.int .u32 (q : Int), .int .u32 (j : Int), .int .u32 (n : Int)] 91)) W → BRel w w1.heap.size q L (.int .i64 ((j : Int) + 1)) (W.setCell ⟨w1.heap.size, j, none⟩ (.string (X.extract (j * 56) ((j + 1) * 56) ++ Y)))) := Lib.hid fun W h =>
        BRel.step hjL hr hb Z1.out (((Below.refl _ wr).alloc (Nat.le_refl _) _).trans (h.mono (Nat.le_succ _))) HZ.out
      have g1 : IntKind.i64.wrap ((j : Int) * 56) = (j : Int) * 56 := IntWalk.i64_in _ (by omega)
      have g2 : IntKind.i64.wrap ((j : Int) + 1) = (j : Int) + 1 := IntWalk.i64_in _ (by omega)
      have g3 : IntKind.i64.wrap (((j : Int) + 1) * 56) = ((j : Int) + 1) * 56 := IntWalk.i64_in _ (by omega)
      have x1 := fun W => run_cut X ((j : Int) * 56) (((j : Int) + 1) * 56) (j * 56) ((j + 1) * 56) W (by omega) (by omega) (by omega) (by omega)
      have x6 : ((X.extract (j * 56) ((j + 1) * 56)).size) = 56 := by rw [cut_size _ _ _ (by omega) (by omega)]; omega
      clear hr hb hX hY hpl
      go_wp2_with fail
      go_region_with (go_at_call 51; (with_reducible refine (HT.out _).mono ?_); rintro e w5 ⟨rfl, b5⟩; obtain ⟨k0, k1, k2, k3, k4, k5⟩ := HSS.out w5 (by (repeat' (first | (with_reducible exact Below.refl _ _) | (with_reducible refine below_drewN ?_ _) | (with_reducible refine Below.drew ?_) | (with_reducible refine Below.alloc ?_ ?_ _) | (with_reducible refine Below.setCell ?_ ?_ _) | (with_reducible refine Below.trans ?_ (Below.mono (by with_reducible assumption) ?_)) | omega | (simp only [World.size_alloc, World.size_drew] at *; omega) | (with_reducible refine Below.size (B := 0) ?_)))); have R5 := Lib.hid (HR.out w5 k5); clear b5 k5)
      all_goals go_wp2_with fail
      all_goals go_roundw
      all_goals first
        | (simp [intOf]; omega)
        | (repeat' (first | (with_reducible exact R5.out) | (with_reducible refine BRel.drew ?_) | (with_reducible refine BRel.drewN ?_ _)))
    · have hf := Lib.hid (BRel.fin (by omega) hr hj)
      have HB := Lib.hid hb
      clear hr hb
      go_wp2_with fail
      go_ret2
      exact ⟨⟨_, rfl, hf.out, Z1.out⟩, HB.out⟩
end Go.Proofs.YtaibmdjcppeopaaGreatDoor
