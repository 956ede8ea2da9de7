/- Contracts of the disk's methods that write: Write, Fuse, Come; and of a nil disk. Conditions: the sentinels lie as the program's text lays them; a disk has at most 4096 blocks and has seen fewer than a million writes. -/
import Derived.Test.YtaibmdjcppeopaaGreatDoorBlk
namespace Go.Proofs.YtaibmdjcppeopaaGreatDoor
open Go Go.RowKit

theorem DiskAt.torn1 {w : World} {p g cap : Nat} {d : DS} (h : DiskAt w p g cap d) {i : Int} {s : List UInt8} (hi : d.has i = true) (hs : s.length = 64) :
    DiskAt ((w.setCells g (64 * i.toNat) (byteVs (s.take d.torn))).setCell ⟨p, 1, none⟩ (.bool false)) p g cap (d.torn1 i s) := by
  have h1 := DS.has_le hi
  have h2 := h.ok.torn
  have hl : (splice d.bs (64 * i.toNat) (s.take d.torn)).length = d.bs.length := len_splice (by simp; omega)
  have hb : (w.setCells g (64 * i.toNat) (byteVs (s.take d.torn))).heap[p]? = some (.cells (dskV g cap d) 66 (0, 0)) := (heap_setCells g _ _ w p (by have := h.lt; omega)).trans h.blk
  refine ⟨?_, (RowAt.copied h.row (by simp; omega)).same (Below.heap_setCell _ ⟨p, 1, none⟩ _ g (by have := h.lt; show g ≠ p; omega)), h.ne, ?_, h.ok.torn1 hi hs⟩
  · rw [set_cells hb]
    show _ = some (Obj.cells #[.slice (some ⟨g, 0, none⟩) (splice d.bs (64 * i.toNat) (s.take d.torn)).length cap, .bool false, .int .i64 d.fuse, .int .i64 (d.torn : Int), .int .i64 (d.wr : Int)] _ _)
    rw [hl]; rfl
  · show (splice _ _ _).length ≤ cap
    rw [hl]; exact h.cap1
theorem DiskAt.wrote0 {w : World} {p g cap : Nat} {d : DS} (h : DiskAt w p g cap d) {i : Int} {s : List UInt8} (hi : d.has i = true) (hs : s.length = 64) (hw : d.wr + 1 ≤ 1000000) (hf : d.fuse ≤ 0) :
    DiskAt ((w.setCells g (64 * i.toNat) (byteVs s)).setCell ⟨p, 4, none⟩ (.int .i64 ((d.wr : Int) + 1))) p g cap (d.wrote i s) := by
  have h1 := DS.has_le hi
  have hl : (splice d.bs (64 * i.toNat) s).length = d.bs.length := len_splice (by omega)
  have hb : (w.setCells g (64 * i.toNat) (byteVs s)).heap[p]? = some (.cells (dskV g cap d) 66 (0, 0)) := (heap_setCells g _ _ w p (by have := h.lt; omega)).trans h.blk
  refine ⟨?_, (RowAt.copied h.row (by omega)).same (Below.heap_setCell _ ⟨p, 4, none⟩ _ g (by have := h.lt; show g ≠ p; omega)), h.ne, ?_, h.ok.wrote hi hs hw⟩
  · rw [set_cells hb]
    show _ = some (Obj.cells #[.slice (some ⟨g, 0, none⟩) (splice d.bs (64 * i.toNat) s).length cap, .bool d.on, .int .i64 (if 0 < d.fuse then d.fuse - 1 else d.fuse), .int .i64 (d.torn : Int), .int .i64 ((d.wr + 1 : Nat) : Int)] _ _)
    rw [hl, if_neg (by omega), Int.natCast_succ]; rfl
  · show (splice _ _ _).length ≤ cap
    rw [hl]; exact h.cap1
theorem DiskAt.wrote1 {w : World} {p g cap : Nat} {d : DS} (h : DiskAt w p g cap d) {i : Int} {s : List UInt8} (hi : d.has i = true) (hs : s.length = 64) (hw : d.wr + 1 ≤ 1000000) (hf : 0 < d.fuse) :
    DiskAt (((w.setCells g (64 * i.toNat) (byteVs s)).setCell ⟨p, 4, none⟩ (.int .i64 ((d.wr : Int) + 1))).setCell ⟨p, 2, none⟩ (.int .i64 (d.fuse - 1))) p g cap (d.wrote i s) := by
  have h1 := DS.has_le hi
  have hl : (splice d.bs (64 * i.toNat) s).length = d.bs.length := len_splice (by omega)
  have hb : (w.setCells g (64 * i.toNat) (byteVs s)).heap[p]? = some (.cells (dskV g cap d) 66 (0, 0)) := (heap_setCells g _ _ w p (by have := h.lt; omega)).trans h.blk
  have hn : g ≠ p := by have := h.lt; omega
  refine ⟨?_, ((RowAt.copied h.row (by omega)).same (Below.heap_setCell _ ⟨p, 4, none⟩ _ g hn)).same (Below.heap_setCell _ ⟨p, 2, none⟩ _ g hn), h.ne, ?_, h.ok.wrote hi hs hw⟩
  · rw [set_cells (set_cells hb)]
    show _ = some (Obj.cells #[.slice (some ⟨g, 0, none⟩) (splice d.bs (64 * i.toNat) s).length cap, .bool d.on, .int .i64 (if 0 < d.fuse then d.fuse - 1 else d.fuse), .int .i64 (d.torn : Int), .int .i64 ((d.wr + 1 : Nat) : Int)] _ _)
    rw [hl, if_pos hf, Int.natCast_succ]; rfl
  · show (splice _ _ _).length ≤ cap
    rw [hl]; exact h.cap1

theorem len_data (s : ByteArray) : s.data.toList.length = s.size := by simp

/-- Behind the copy of a torn write. -/
theorem torn_facts {w0 w w5 : World} {p g cap k : Nat} {d : DS} {t : ByteArray} (h : DiskAt w p g cap d) (hb : Chg p g w0 w) (hi : d.has (k : Int) = true) (ht : t.size = 64)
    (e : w5 = w.setCells g (64 * k) (byteVs (t.extract 0 d.torn).data.toList)) :
    DiskAt (w5.setCell ⟨p, 1, none⟩ (.bool false)) p g cap (d.torn1 (k : Int) t.data.toList) ∧ Chg p g w0 (w5.setCell ⟨p, 1, none⟩ (.bool false)) ∧ w5.cell? ⟨p, 1, none⟩ = some (.bool d.on) ∧ w5.frozen? ⟨p, 1, none⟩ = false ∧ w5.cell? ⟨p, 3, none⟩ = some (.int .i64 (d.torn : Int)) := by
  subst e
  have hlt := h.lt
  have hp1 : (w.setCells g (64 * k) (byteVs (t.extract 0 d.torn).data.toList)).heap[p]? = w.heap[p]? := heap_setCells g _ _ w p (by omega)
  have hf := h.torn1 hi (s := t.data.toList) (by rw [len_data]; exact ht)
  rw [Int.toNat_natCast, ← extract_take] at hf
  exact ⟨hf, (hb.setCells (.inr rfl) _ _).setCell (.inl rfl) _, by rw [(cell_same hp1 1).1]; exact cell_of_heap h.blk 1, by rw [(cell_same hp1 1).2]; exact frozen_of_heap h.blk 1, by rw [(cell_same hp1 3).1]; exact cell_of_heap h.blk 3⟩
/-- Behind the copy of a whole write. -/
theorem whole_facts {w0 w w5 : World} {p g cap k : Nat} {d : DS} {t : ByteArray} (h : DiskAt w p g cap d) (hb : Chg p g w0 w) (hi : d.has (k : Int) = true) (ht : t.size = 64) (hw : d.wr + 1 ≤ 1000000)
    (e : w5 = w.setCells g (64 * k) (byteVs t.data.toList)) :
    (d.fuse ≤ 0 → DiskAt (w5.setCell ⟨p, 4, none⟩ (.int .i64 ((d.wr : Int) + 1))) p g cap (d.wrote (k : Int) t.data.toList) ∧ Chg p g w0 (w5.setCell ⟨p, 4, none⟩ (.int .i64 ((d.wr : Int) + 1)))) ∧
    (0 < d.fuse → DiskAt ((w5.setCell ⟨p, 4, none⟩ (.int .i64 ((d.wr : Int) + 1))).setCell ⟨p, 2, none⟩ (.int .i64 (d.fuse - 1))) p g cap (d.wrote (k : Int) t.data.toList) ∧ Chg p g w0 ((w5.setCell ⟨p, 4, none⟩ (.int .i64 ((d.wr : Int) + 1))).setCell ⟨p, 2, none⟩ (.int .i64 (d.fuse - 1)))) ∧
    w5.cell? ⟨p, 2, none⟩ = some (.int .i64 d.fuse) ∧ w5.frozen? ⟨p, 2, none⟩ = false ∧ w5.cell? ⟨p, 4, none⟩ = some (.int .i64 (d.wr : Int)) ∧ w5.frozen? ⟨p, 4, none⟩ = false := by
  subst e
  have hlt := h.lt
  have hp1 : (w.setCells g (64 * k) (byteVs t.data.toList)).heap[p]? = w.heap[p]? := heap_setCells g _ _ w p (by omega)
  have hc := hb.setCells (.inr rfl : g = p ∨ g = g) (64 * k) (byteVs t.data.toList)
  have h64 : t.data.toList.length = 64 := by rw [len_data]; exact ht
  refine ⟨fun hf => ⟨?_, hc.setCell (.inl rfl) _⟩, fun hf => ⟨?_, (hc.setCell (.inl rfl) _).setCell (.inl rfl) _⟩, by rw [(cell_same hp1 2).1]; exact cell_of_heap h.blk 2, by rw [(cell_same hp1 2).2]; exact frozen_of_heap h.blk 2, by rw [(cell_same hp1 4).1]; exact cell_of_heap h.blk 4, by rw [(cell_same hp1 4).2]; exact frozen_of_heap h.blk 4⟩
  · have hx := h.wrote0 hi h64 hw hf
    rwa [Int.toNat_natCast] at hx
  · have hx := h.wrote1 hi h64 hw hf
    rwa [Int.toNat_natCast] at hx

/-- 'copy(row[o:o+n], s)' as one step of a region. -/
theorem step_copy_str {ops : Array Oper} {o : Oper} {a : Act} {w : World} {K : Act → World → Prop} {Q : Exit → Act → World → Prop} {E : Prop} (hgd : o.guard = none) (d s : Operand) (dT sT : TypeId)
    (ho : o.op = .call { callee := .builtin .copy, args := #[d, s], argTypes := #[dT, sT] }) (elem : TypeId) (hu : Tryz.prog.underlying dT = some (.slice elem)) (hsz : (Tryz.prog.info? elem).map (·.size) = some 1)
    (b off dLen dCap : Nat) (t : ByteArray) (hd : a.eval d = .slice (some ⟨b, off, none⟩) dLen dCap) (hs : a.eval s = .string t) (hn : t.size ≤ dLen)
    (hcf : ∀ j, j < t.size → (w.cell? ⟨b, off + j, none⟩).isSome = true ∧ w.frozen? ⟨b, off + j, none⟩ = false)
    (h : ∀ w', w' = w.setCells b off (byteVs t.data.toList) → K (a.put o.dst (goInt t.size)) w') :
    if Region.wanted o (yielded ops a.tmps) = true then Oper.wp Tryz.prog o a w K Q else E := by
  have hw : Region.wanted o (yielded ops a.tmps) = true := by simp [Region.wanted, hgd]
  rw [if_pos hw]
  have hrun := run_copy_str w dT sT o.type elem b off dLen dCap t hu hsz hn (fun j hj => (hcf j hj).1) (fun j hj => (hcf j hj).2)
  unfold Oper.wp
  simp [execOp, ho, resolve, invoke, builtin, hd, hs, hrun, Result.andThen]
  exact h _ rfl
theorem DiskAt.piece {w : World} {p g cap k n : Nat} {d : DS} (h : DiskAt w p g cap d) (hk : 64 * k + 64 ≤ d.bs.length) (hn : n ≤ 64) : ∀ j, j < n → (w.cell? ⟨g, 64 * k + j, none⟩).isSome = true ∧ w.frozen? ⟨g, 64 * k + j, none⟩ = false :=
  fun j hj => ⟨by rw [(h.row.2 (64 * k + j) (by omega)).1]; rfl, (h.row.2 (64 * k + j) (by omega)).2⟩

theorem step_torn {ops : Array Oper} {o : Oper} {a : Act} {w w0 : World} {K : Act → World → Prop} {Q : Exit → Act → World → Prop} {E : Prop} (hgd : o.guard = none) (x y : Operand)
    (ho : o.op = .call { callee := .builtin .copy, args := #[x, y], argTypes := #[51, 9] })
    {p g cap k : Nat} {d : DS} {t : ByteArray} (hd : a.eval x = .slice (some ⟨g, 64 * k, none⟩) 64 (cap - 64 * k)) (hs : a.eval y = .string (t.extract 0 d.torn))
    (hk : DiskAt w p g cap d) (hb : Chg p g w0 w) (hi : d.has (k : Int) = true) (ht : Hid (t.size = 64))
    (h : ∀ w', Hid (DiskAt (w'.setCell ⟨p, 1, none⟩ (.bool false)) p g cap (d.torn1 (k : Int) t.data.toList)) → Hid (Chg p g w0 (w'.setCell ⟨p, 1, none⟩ (.bool false))) → w'.cell? ⟨p, 1, none⟩ = some (.bool d.on) → w'.frozen? ⟨p, 1, none⟩ = false → w'.cell? ⟨p, 3, none⟩ = some (.int .i64 (d.torn : Int)) → Hid (Chg p g w0 w') → K (a.put o.dst (goInt (t.extract 0 d.torn).size)) w') :
    if Region.wanted o (yielded ops a.tmps) = true then Oper.wp Tryz.prog o a w K Q else E := by
  have hle := DS.has_le hi
  rw [Int.toNat_natCast] at hle
  have hto := hk.ok.torn
  have hz : (t.extract 0 d.torn).size ≤ 64 := by have := ht.out; simp; omega
  refine step_copy_str hgd x y _ _ ho 5 Tryz.underlying51 (by kernel_rfl) g (64 * k) 64 (cap - 64 * k) (t.extract 0 d.torn) hd hs hz (hk.piece hle hz) ?_
  intro w5 e
  obtain ⟨h1, h2, h3, h4, h5⟩ := torn_facts hk hb hi ht.out e
  exact h w5 h1 h2 h3 h4 h5 (by rw [e]; exact hb.setCells (.inr rfl) _ _)
theorem step_whole {ops : Array Oper} {o : Oper} {a : Act} {w w0 : World} {K : Act → World → Prop} {Q : Exit → Act → World → Prop} {E : Prop} (hgd : o.guard = none) (x y : Operand)
    (ho : o.op = .call { callee := .builtin .copy, args := #[x, y], argTypes := #[51, 9] })
    {p g cap k : Nat} {d : DS} {t : ByteArray} (hd : a.eval x = .slice (some ⟨g, 64 * k, none⟩) 64 (cap - 64 * k)) (hs : a.eval y = .string t)
    (hk : DiskAt w p g cap d) (hb : Chg p g w0 w) (hi : d.has (k : Int) = true) (ht : Hid (t.size = 64)) (hw : Hid (d.wr + 1 ≤ 1000000))
    (h : ∀ w', Hid ((d.fuse ≤ 0 → DiskAt (w'.setCell ⟨p, 4, none⟩ (.int .i64 ((d.wr : Int) + 1))) p g cap (d.wrote (k : Int) t.data.toList) ∧ Chg p g w0 (w'.setCell ⟨p, 4, none⟩ (.int .i64 ((d.wr : Int) + 1)))) ∧
      (0 < d.fuse → DiskAt ((w'.setCell ⟨p, 4, none⟩ (.int .i64 ((d.wr : Int) + 1))).setCell ⟨p, 2, none⟩ (.int .i64 (d.fuse - 1))) p g cap (d.wrote (k : Int) t.data.toList) ∧ Chg p g w0 ((w'.setCell ⟨p, 4, none⟩ (.int .i64 ((d.wr : Int) + 1))).setCell ⟨p, 2, none⟩ (.int .i64 (d.fuse - 1))))) →
      w'.cell? ⟨p, 2, none⟩ = some (.int .i64 d.fuse) → w'.frozen? ⟨p, 2, none⟩ = false → w'.cell? ⟨p, 4, none⟩ = some (.int .i64 (d.wr : Int)) → w'.frozen? ⟨p, 4, none⟩ = false → K (a.put o.dst (goInt t.size)) w') :
    if Region.wanted o (yielded ops a.tmps) = true then Oper.wp Tryz.prog o a w K Q else E := by
  have hle := DS.has_le hi
  rw [Int.toNat_natCast] at hle
  have hz : t.size ≤ 64 := by have := ht.out; omega
  refine step_copy_str hgd x y _ _ ho 5 Tryz.underlying51 (by kernel_rfl) g (64 * k) 64 (cap - 64 * k) t hd hs hz (hk.piece hle hz) ?_
  intro w5 e
  obtain ⟨h0, h1, h2, h3, h4, h5⟩ := whole_facts hk hb hi ht.out hw.out e
  exact h w5 ⟨h0, h1⟩ h2 h3 h4 h5

/-- What a write answers and leaves. -/
def WroteTo (s : Nat → Addr) (w w' : World) (p g cap : Nat) (e : Ending) (r : Nat × DS) : Prop := e = .returned (errV s r.1) ∧ DiskAt w' p g cap r.2 ∧ Chg p g w w'

theorem write_no {d : DS} {i : Int} {s : List UInt8} (h : d.has i = false ∨ s.length ≠ 64) : d.write i s = (1, d) := by
  unfold DS.write; rcases h with h | h
  · rw [h]; rfl
  · rw [decide_eq_false h, Bool.and_false]; rfl
theorem write_off {d : DS} {i : Int} {s : List UInt8} (h : d.has i = true) (h2 : s.length = 64) (ho : d.on = false) : d.write i s = (14, d) := by
  unfold DS.write; rw [h, decide_eq_true h2, ho]; rfl
theorem write_torn {d : DS} {i : Int} {s : List UInt8} (h : d.has i = true) (h2 : s.length = 64) (ho : d.on = true) (hf : d.fuse = 0) : d.write i s = (14, d.torn1 i s) := by
  unfold DS.write; rw [h, decide_eq_true h2, ho]; exact if_pos hf
theorem write_whole {d : DS} {i : Int} {s : List UInt8} (h : d.has i = true) (h2 : s.length = 64) (ho : d.on = true) (hf : d.fuse ≠ 0) : d.write i s = (0, d.wrote i s) := by
  unfold DS.write; rw [h, decide_eq_true h2, ho]; exact if_neg hf

set_option maxHeartbeats 1600000 in
set_option maxRecDepth 100000 in
theorem write_bad (s : Nat → Addr) (p g cap : Nat) (d : DS) (i : Int) (t : ByteArray) (w : World) (hs : Sent s w) (h : DiskAt w p g cap d) (_ht : t.size ≤ 9223372036854775807) (hb : d.has i = false ∨ t.size ≠ 64) :
    Calls Tryz.prog 60 #[.pointer (some ⟨p, 0, none⟩), .int .i64 i, .string t] w fun e w' => e = .returned (errV s 1) ∧ w = w' := by
  have gA := hs.cell 0 (by omega)
  simp only [gnum, List.getD_cons_zero] at gA
  go_enter Tryz.func60, Tryz.ntmps60
  go_wp2_with fail
  refine (has_c p g cap d i _ h).mono ?_
  rintro e w1 ⟨rfl, rfl⟩
  cases hi : d.has i
  · go_wp2_with fail
    go_ret
    exact ⟨rfl, rfl⟩
  · have h64 : ((t.size : Int) == 64) = false := by
      rw [beq_eq_false_iff_ne]; rcases hb with hb | hb
      · rw [hi] at hb; cases hb
      · omega
    go_wp2_with fail
    go_ret
    exact ⟨rfl, rfl⟩

set_option maxHeartbeats 1600000 in
set_option maxRecDepth 100000 in
theorem write_down (s : Nat → Addr) (p g cap : Nat) (d : DS) (i : Int) (t : ByteArray) (w : World) (hs : Sent s w) (h : DiskAt w p g cap d) (ht : t.size = 64) (hi : d.has i = true) (ho : d.on = false) :
    Calls Tryz.prog 60 #[.pointer (some ⟨p, 0, none⟩), .int .i64 i, .string t] w fun e w' => e = .returned (errV s 14) ∧ w = w' := by
  have gD := hs.cell 13 (by omega)
  simp only [gnum, List.getD_cons_zero, List.getD_cons_succ] at gD
  have c1 : w.cell? ⟨p, 1, none⟩ = some (.bool d.on) := cell_of_heap h.blk 1
  rw [ho] at c1
  go_enter Tryz.func60, Tryz.ntmps60
  go_wp2_with fail
  refine (has_c p g cap d i _ h).mono ?_
  rintro e w1 ⟨rfl, rfl⟩
  rw [hi]
  go_wp2_with fail
  go_ret
  exact ⟨rfl, rfl⟩

set_option maxHeartbeats 1600000 in
set_option maxRecDepth 100000 in
theorem write_tear (s : Nat → Addr) (p g cap : Nat) (d : DS) (i : Int) (t : ByteArray) (w : World) (hs : Sent s w) (h : DiskAt w p g cap d) (ht : t.size = 64) (hi : d.has i = true) (ho : d.on = true) (hf : d.fuse = 0) :
    Calls Tryz.prog 60 #[.pointer (some ⟨p, 0, none⟩), .int .i64 i, .string t] w fun e w' => WroteTo s w w' p g cap e (14, d.torn1 i t.data.toList) := by
  have gD := hs.cell 13 (by omega)
  simp only [gnum, List.getD_cons_zero, List.getD_cons_succ] at gD
  have c1 : w.cell? ⟨p, 1, none⟩ = some (.bool d.on) := cell_of_heap h.blk 1
  have c2 : w.cell? ⟨p, 2, none⟩ = some (.int .i64 d.fuse) := cell_of_heap h.blk 2
  have c3 : w.cell? ⟨p, 3, none⟩ = some (.int .i64 (d.torn : Int)) := cell_of_heap h.blk 3
  rw [ho] at c1
  rw [hf] at c2
  have hle := DS.has_le hi
  have hto := h.ok.torn
  have hfin := h.torn1 hi (s := t.data.toList) (by rw [len_data]; exact ht)
  obtain ⟨k, rfl⟩ := Int.eq_ofNat_of_zero_le (DS.has_iff.1 hi).1
  rw [Int.toNat_natCast] at hle hfin
  have hlt := h.lt
  have HSS : Hid (∀ W : World, DiskAt W p g cap d → W.cell? ⟨p, 3, none⟩ = some (.int .i64 (d.torn : Int))) := Lib.hid fun W h => cell_of_heap h.blk 3
  have hb0 := Chg.refl p g w
  have hgl : 13 < w.heap.size := lt_of_cell gD
  have hnp : 13 ≠ p := by
    rintro rfl; rw [cell_of_heap h.blk 0] at gD; cases gD
  have hng : 13 ≠ g := by
    rintro rfl; rw [(h.row.2 0 (by omega)).1] at gD; cases gD
  have ht0 : (0 : Int) ≤ (d.torn : Int) := by omega
  have ht1 : (d.torn : Int) ≤ (t.size : Int) := by omega
  clear hfin
  go_enter Tryz.func60, Tryz.ntmps60
  go_wp2_with fail
  refine (has_c p g cap d _ _ h).mono ?_
  rintro e w1 ⟨rfl, rfl⟩
  rw [hi]
  go_wp2_with fail
  have HT := Lib.hid ht; clear ht
  go_region_held3 (fun W => W.cell? ⟨p, 3, none⟩ = some (.int .i64 (d.torn : Int)))
    (first | assumption | exact HSS.out _ (by (repeat' (first | (with_reducible assumption) | (with_reducible exact Hid.out (by with_reducible assumption)) | (with_reducible refine DiskAt.drewN ?_ _) | (with_reducible refine DiskAt.drew ?_) | (with_reducible refine DiskAt.alloc ?_ _)))))
    (first
      | (go_at_call 64; (refine (block_c p g cap d k _ (by (repeat' (first | (with_reducible assumption) | (with_reducible exact Hid.out (by with_reducible assumption)) | (with_reducible refine DiskAt.drewN ?_ _) | (with_reducible refine DiskAt.drew ?_) | (with_reducible refine DiskAt.alloc ?_ _)))) hle).mono ?_); rintro e w5 ⟨rfl, rfl⟩)
      | (refine step_torn (w0 := w) (p := p) (k := k) rfl (.tmp 33) (.tmp 39) rfl rfl rfl (by (repeat' (first | (with_reducible assumption) | (with_reducible exact Hid.out (by with_reducible assumption)) | (with_reducible refine DiskAt.drewN ?_ _) | (with_reducible refine DiskAt.drew ?_) | (with_reducible refine DiskAt.alloc ?_ _)))) (by (repeat' (first | (with_reducible assumption) | (with_reducible exact Hid.out (by with_reducible assumption)) | (with_reducible refine Chg.drewN ?_ _) | (with_reducible refine Chg.drew ?_) | (with_reducible refine Chg.alloc ?_ _) | (with_reducible refine Chg.refl _ _ _)))) hi HT ?_; intro w5 HF HG d5 f5 s5 HB))
  all_goals rw [ho] at d5
  all_goals have gD5 := (World.cell?_of_block (a := ⟨13, 0, none⟩) (HB.out.block _ hgl hnp hng)).trans gD
  all_goals go_wp2_with fail
  all_goals go_ret
  all_goals exact ⟨rfl, HF.out, HG.out⟩

set_option maxHeartbeats 1600000 in
set_option maxRecDepth 100000 in
theorem write_full (s : Nat → Addr) (p g cap : Nat) (d : DS) (i : Int) (t : ByteArray) (w : World) (h : DiskAt w p g cap d) (ht : t.size = 64) (hi : d.has i = true) (ho : d.on = true) (hf : d.fuse ≠ 0) (hw : d.wr + 1 ≤ 1000000) :
    Calls Tryz.prog 60 #[.pointer (some ⟨p, 0, none⟩), .int .i64 i, .string t] w fun e w' => WroteTo s w w' p g cap e (0, d.wrote i t.data.toList) := by
  have c1 : w.cell? ⟨p, 1, none⟩ = some (.bool d.on) := cell_of_heap h.blk 1
  have c2 : w.cell? ⟨p, 2, none⟩ = some (.int .i64 d.fuse) := cell_of_heap h.blk 2
  rw [ho] at c1
  have hle := DS.has_le hi
  obtain ⟨k, rfl⟩ := Int.eq_ofNat_of_zero_le (DS.has_iff.1 hi).1
  rw [Int.toNat_natCast] at hle
  have hlt := h.lt
  have hf0 : (d.fuse == 0) = false := by rw [beq_eq_false_iff_ne]; exact hf
  have hlo := h.ok.lo
  have hhi := h.ok.hi
  have HW := Lib.hid hw
  have hw0 : (0 : Int) ≤ (d.wr : Int) := by omega
  have hw1 : (d.wr : Int) ≤ 1000000 := by omega
  clear hw
  go_enter Tryz.func60, Tryz.ntmps60
  go_wp2_with fail
  refine (has_c p g cap d _ _ h).mono ?_
  rintro e w1 ⟨rfl, rfl⟩
  rw [hi]
  go_wp2_with fail
  refine (block_c p g cap d k _ h hle).mono ?_
  rintro e w1 ⟨rfl, rfl⟩
  obtain ⟨w5, e⟩ : ∃ w5, w5 = w.setCells g (64 * k) (byteVs t.data.toList) := ⟨_, rfl⟩
  have hcp : (Builtin.copy_ #[51, 9] 3 #[.slice (some ⟨g, 64 * k, none⟩) 64 (cap - 64 * k), .string t]).run Tryz.prog w = .ok (goInt t.size) w5 := by
    rw [e]; exact run_copy_str w _ _ _ 5 g (64 * k) 64 _ t Tryz.underlying51 (by kernel_rfl) (by omega) (fun j hj => (h.piece hle (by omega) j hj).1) (fun j hj => (h.piece hle (by omega) j hj).2)
  obtain ⟨h0, h1, c2', f2, c4, f4⟩ := whole_facts h (Chg.refl p g w) hi ht HW.out e
  have H0 := Lib.hid h0; clear h0
  have H1 := Lib.hid h1; clear h1 e
  have hwx : IntKind.i64.wrap ((d.wr : Int) + 1) = (d.wr : Int) + 1 := IntWalk.i64_in _ (by omega)
  by_cases hpos : 0 < d.fuse
  · have hfx : IntKind.i64.wrap (d.fuse - 1) = d.fuse - 1 := IntWalk.i64_in _ (by omega)
    go_wp2_with fail
    go_ret
    exact ⟨rfl, H1.out hpos⟩
  · go_wp2_with fail
    go_ret
    exact ⟨rfl, H0.out (by omega)⟩

theorem write_c (s : Nat → Addr) (p g cap : Nat) (d : DS) (i : Int) (t : ByteArray) (w : World) (hs : Sent s w) (h : DiskAt w p g cap d) (ht : t.size ≤ 9223372036854775807) (hw : d.wr + 1 ≤ 1000000) :
    Calls Tryz.prog 60 #[.pointer (some ⟨p, 0, none⟩), .int .i64 i, .string t] w fun e w' => WroteTo s w w' p g cap e (d.write i t.data.toList) := by
  by_cases hi : d.has i = true
  · by_cases h64 : t.size = 64
    · have hl : t.data.toList.length = 64 := by rw [len_data]; exact h64
      cases ho : d.on
      · rw [write_off hi hl ho]
        exact (write_down s p g cap d i t w hs h h64 hi ho).mono fun _ _ ⟨h1, h2⟩ => by subst h2; exact ⟨h1, h, Chg.refl _ _ _⟩
      · by_cases hf : d.fuse = 0
        · rw [write_torn hi hl ho hf]; exact write_tear s p g cap d i t w hs h h64 hi ho hf
        · rw [write_whole hi hl ho hf]; exact write_full s p g cap d i t w h h64 hi ho hf hw
    · rw [write_no (.inr (by rw [len_data]; exact h64))]
      exact (write_bad s p g cap d i t w hs h ht (.inr h64)).mono fun _ _ ⟨h1, h2⟩ => by subst h2; exact ⟨h1, h, Chg.refl _ _ _⟩
  · have hi' : d.has i = false := by simpa using hi
    rw [write_no (.inl hi')]
    exact (write_bad s p g cap d i t w hs h ht (.inl hi')).mono fun _ _ ⟨h1, h2⟩ => by subst h2; exact ⟨h1, h, Chg.refl _ _ _⟩

/-! Fuse and Come. -/
theorem DiskAt.fused {w : World} {p g cap : Nat} {d : DS} (h : DiskAt w p g cap d) (n torn : Int) (ho : d.on = true) (h0 : -9223372036854775808 ≤ n) (h1 : n ≤ 9223372036854775807) :
    DiskAt ((w.setCell ⟨p, 2, none⟩ (.int .i64 n)).setCell ⟨p, 3, none⟩ (.int .i64 (clampI torn 64 : Nat))) p g cap (d.setFuse n torn) := by
  have hn : g ≠ p := by have := h.lt; omega
  have ht := clamp_le torn 64
  unfold DS.setFuse; rw [if_pos ho]
  exact ⟨set_cells (set_cells h.blk), (h.row.same (Below.heap_setCell _ ⟨p, 2, none⟩ _ g hn)).same (Below.heap_setCell _ ⟨p, 3, none⟩ _ g hn), h.ne, h.cap1, ht, h0, h1, h.ok.len, h.ok.whole, h.ok.wr⟩
theorem DiskAt.came {w : World} {p g cap : Nat} {d : DS} (h : DiskAt w p g cap d) (ho : d.on = false) :
    DiskAt ((w.setCell ⟨p, 1, none⟩ (.bool true)).setCell ⟨p, 2, none⟩ (.int .i64 (-1))) p g cap d.come := by
  have hn : g ≠ p := by have := h.lt; omega
  unfold DS.come; rw [if_neg (by rw [ho]; decide)]
  exact ⟨set_cells (set_cells h.blk), (h.row.same (Below.heap_setCell _ ⟨p, 1, none⟩ _ g hn)).same (Below.heap_setCell _ ⟨p, 2, none⟩ _ g hn), h.ne, h.cap1, h.ok.torn, by show (-9223372036854775808 : Int) ≤ -1; omega, by show (-1 : Int) ≤ 9223372036854775807; omega, h.ok.len, h.ok.whole, h.ok.wr⟩

end Go.Proofs.YtaibmdjcppeopaaGreatDoor
