/- A log and the blocks of its disk; contract of log's note. Conditions: the log lies in memory. -/
import Derived.Test.YtaibmdjcppeopaaGreatDoorRg
namespace Go.Proofs.YtaibmdjcppeopaaGreatDoor
open Go Go.RowKit

/-- The blocks of a log and of its disk. -/
def Log3 (q p g : Nat) : Nat → Prop := fun k => k = q ∨ k = p ∨ k = g
theorem dsk2_log3 {q p g k : Nat} (h : Dsk2 p g k) : Log3 q p g k := .inr h
theorem LogMem.disked {w w' : World} {B q p g cap : Nat} {d r : DS} {a m b : Nat} {v : Value} {rs : List (List UInt8)} {fell : Bool} (h : LogMem w B q p g cap d a m b v rs fell) (hd : DiskAt w' p g cap r) (hc : ChgS (Dsk2 p g) w w') (hn : r.n = d.n) :
    LogMem w' B q p g cap r a m b v rs fell :=
  have hl := h.lt
  ⟨hc.row h.blk (by rintro (h | h) <;> omega), hd, hc.own h.own (fun k hk hs => by obtain ⟨_, h2, h3⟩ := h.apart k hk; rcases hs with hs | hs <;> contradiction), h.nil0, h.lo, h.ne, by rw [hn]; exact h.fits, h.room, h.base, h.apart⟩
theorem LogMem.lo3 {w : World} {B q p g cap : Nat} {d : DS} {a m b : Nat} {v : Value} {rs : List (List UInt8)} {fell : Bool} (h : LogMem w B q p g cap d a m b v rs fell) : ∀ k, Log3 q p g k → B ≤ k := by
  have hl := h.lt
  rintro k (rfl | rfl | rfl) <;> omega
theorem LogMem.fallen {w : World} {B q p g cap : Nat} {d : DS} {a m b : Nat} {v : Value} {rs : List (List UInt8)} (h : LogMem w B q p g cap d a m b v rs false) : LogMem (w.setCell ⟨q, 6, none⟩ (.bool true)) B q p g cap d a m b v rs true := by
  have hl := h.lt
  refine ⟨?_, h.disk.same (Below.heap_setCell w ⟨q, 6, none⟩ _ p (by show p ≠ q; omega)) (Below.heap_setCell w ⟨q, 6, none⟩ _ g (by show g ≠ q; omega)), own_same h.own fun k hk => Below.heap_setCell w ⟨q, 6, none⟩ _ k (h.apart k hk).1, h.nil0, h.lo, h.ne, h.fits, h.room, h.base, h.apart⟩
  rw [set_cells h.blk]; rfl

/-- A log between the calls of one statement that began in the world w. -/
structure LgMid (w W : World) (B q p g cap : Nat) (d : DS) (a m b : Nat) (v : Value) (rs : List (List UInt8)) (fell : Bool) : Prop where
  mem : LogMem W B q p g cap d a m b v rs fell
  chg : ChgS (Log3 q p g) w W
theorem LgMid.drewN {w W : World} {B q p g cap : Nat} {d : DS} {a m b : Nat} {v : Value} {rs : List (List UInt8)} {fell : Bool} (h : LgMid w W B q p g cap d a m b v rs fell) (n : Nat) : LgMid w (W.drewN n) B q p g cap d a m b v rs fell := ⟨h.mem.same (Same.drewN _ _), h.chg.drewN n⟩
theorem LgMid.drew {w W : World} {B q p g cap : Nat} {d : DS} {a m b : Nat} {v : Value} {rs : List (List UInt8)} {fell : Bool} (h : LgMid w W B q p g cap d a m b v rs fell) : LgMid w W.drew B q p g cap d a m b v rs fell := ⟨h.mem.same (Same.drew _), h.chg.drew⟩
theorem LgMid.start {w : World} {B q p g cap : Nat} {d : DS} {a m b : Nat} {v : Value} {rs : List (List UInt8)} {fell : Bool} (h : LogMem w B q p g cap d a m b v rs fell) : LgMid w w B q p g cap d a m b v rs fell := ⟨h, ChgS.refl _ _⟩
set_option maxHeartbeats 1600000 in
set_option maxRecDepth 100000 in
/-- No error: nothing is kept in mind. -/
theorem note_ok (B q p g cap : Nat) (d : DS) (a m b : Nat) (v : Value) (rs : List (List UInt8)) (w : World) (h : LogMem w B q p g cap d a m b v rs false) :
    Calls Tryz.prog 55 #[.pointer (some ⟨q, 0, none⟩), .nilIface] w fun e w' => e = .returned .nilIface ∧ Same w w' := by
  have c6 := h.cells.2.2.2.2.2.2
  have f6 := frozen_of_heap h.blk 6
  have HS := Lib.hid (Same.set (w := w) (j := 6) (x := .bool false) h.blk rfl)
  clear h
  go_enter Tryz.func55, Tryz.ntmps55
  go_wp2_with fail
  go_ret
  exact ⟨rfl, HS.out⟩

set_option maxHeartbeats 1600000 in
set_option maxRecDepth 100000 in
/-- The power failed. -/
theorem note_bad (B q p g cap : Nat) (d : DS) (a m b : Nat) (v : Value) (rs : List (List UInt8)) (x : Addr) (w : World) (h : LogMem w B q p g cap d a m b v rs false) :
    Calls Tryz.prog 55 #[.pointer (some ⟨q, 0, none⟩), .iface 157 (.pointer (some x))] w fun e w' => e = .returned (.iface 157 (.pointer (some x))) ∧ LogMem w' B q p g cap d a m b v rs true ∧ ChgS (fun k => k = q) w w' := by
  have c6 := h.cells.2.2.2.2.2.2
  have f6 := frozen_of_heap h.blk 6
  have HS : Hid (LogMem (w.setCell ⟨q, 6, none⟩ (.bool true)) B q p g cap d a m b v rs true ∧ ChgS (fun k => k = q) w (w.setCell ⟨q, 6, none⟩ (.bool true))) := Lib.hid ⟨h.fallen, (ChgS.refl (fun k => k = q) w).setCell (ad := ⟨q, 6, none⟩) (.inl rfl) _⟩
  clear h
  go_enter Tryz.func55, Tryz.ntmps55
  go_wp2_with fail
  go_ret
  exact ⟨rfl, HS.out⟩
theorem note_ok2 (w0 : World) (B q p g cap : Nat) (d : DS) (a m b : Nat) (v : Value) (rs : List (List UInt8)) (w : World) (h : LgMid w0 w B q p g cap d a m b v rs false) :
    Calls Tryz.prog 55 #[.pointer (some ⟨q, 0, none⟩), .nilIface] w fun e w' => e = .returned .nilIface ∧ LgMid w0 w' B q p g cap d a m b v rs false := by
  refine (note_ok B q p g cap d a m b v rs w h.mem).mono ?_
  rintro e w' ⟨he, hs⟩
  exact ⟨he, h.mem.same hs, h.chg.trans (hs.chg (Log3 q p g)) fun _ _ h => h⟩
theorem note_bad2 (w0 : World) (B q p g cap : Nat) (d : DS) (a m b : Nat) (v : Value) (rs : List (List UInt8)) (x : Addr) (w : World) (h : LgMid w0 w B q p g cap d a m b v rs false) :
    Calls Tryz.prog 55 #[.pointer (some ⟨q, 0, none⟩), .iface 157 (.pointer (some x))] w fun e w' => e = .returned (.iface 157 (.pointer (some x))) ∧ LgMid w0 w' B q p g cap d a m b v rs true := by
  refine (note_bad B q p g cap d a m b v rs x w h.mem).mono ?_
  rintro e w' ⟨he, hm, hc⟩
  exact ⟨he, hm, h.chg.trans hc fun _ _ h => .inl h⟩
end Go.Proofs.YtaibmdjcppeopaaGreatDoor
