/- Plain arithmetic of the disk: its state, what its operations make of it. No program, no conditions. -/
import Derived.Laws.CopyOwn
namespace Go.Proofs.YtaibmdjcppeopaaGreatDoor
open Go

/-- A disk: its bytes, the power, the fuse (below 0: none), the torn bytes, the whole writes. -/
structure DS where
  bs : List UInt8
  on : Bool
  fuse : Int
  torn : Nat
  wr : Nat

def DS.n (d : DS) : Nat := d.bs.length / 64

structure DS.Ok (d : DS) : Prop where
  torn : d.torn ≤ 64
  lo : -9223372036854775808 ≤ d.fuse
  hi : d.fuse ≤ 9223372036854775807
  len : d.bs.length ≤ 262144
  whole : d.bs.length % 64 = 0
  wr : d.wr ≤ 1000000

/-- A new disk of these bytes. -/
def newD (bs : List UInt8) : DS := ⟨bs, true, -1, 0, 0⟩
/-- The bytes of a block. -/
def DS.blk (d : DS) (k : Nat) : List UInt8 := (d.bs.drop (64 * k)).take 64
/-- A number's nearest from 0 to a bound. -/
def clampI (n : Int) (most : Nat) : Nat := (min (max n 0) (most : Int)).toNat

def DS.has (d : DS) (i : Int) : Bool := decide (0 ≤ i) && decide (i < (d.n : Int))
def DS.read (d : DS) (i : Int) : Nat × List UInt8 := if d.has i then (if d.on then (0, d.blk i.toNat) else (14, [])) else (1, [])
def DS.torn1 (d : DS) (i : Int) (s : List UInt8) : DS := { d with bs := splice d.bs (64 * i.toNat) (s.take d.torn), on := false }
def DS.wrote (d : DS) (i : Int) (s : List UInt8) : DS := { d with bs := splice d.bs (64 * i.toNat) s, wr := d.wr + 1, fuse := if 0 < d.fuse then d.fuse - 1 else d.fuse }
def DS.write (d : DS) (i : Int) (s : List UInt8) : Nat × DS :=
  if d.has i && decide (s.length = 64) then (if d.on then (if d.fuse = 0 then (14, d.torn1 i s) else (0, d.wrote i s)) else (14, d)) else (1, d)
def DS.setFuse (d : DS) (n torn : Int) : DS := if d.on then { d with fuse := n, torn := clampI torn 64 } else d
def DS.come (d : DS) : DS := if d.on then d else { d with on := true, fuse := -1 }

theorem clamp_le (n : Int) (m : Nat) : clampI n m ≤ m := by unfold clampI; omega
theorem len_splice {L cs : List UInt8} {o : Nat} (h : o + cs.length ≤ L.length) : (splice L o cs).length = L.length := length_splice L o cs h
theorem DS.has_iff {d : DS} {i : Int} : d.has i = true ↔ 0 ≤ i ∧ i < (d.n : Int) := by unfold DS.has; simp
theorem DS.has_le {d : DS} {i : Int} (h : d.has i = true) : 64 * i.toNat + 64 ≤ d.bs.length := by
  have := DS.has_iff.1 h; unfold DS.n at this; omega
theorem DS.blk_len {d : DS} {i : Int} (h : d.has i = true) : (d.blk i.toNat).length = 64 := by
  have := DS.has_le h; unfold DS.blk; simp; omega

theorem DS.Ok.new {bs : List UInt8} (h : bs.length ≤ 262144) (h2 : bs.length % 64 = 0) : (newD bs).Ok := ⟨by simp [newD], by simp [newD], by simp [newD], h, h2, by simp [newD]⟩
theorem DS.Ok.torn1 {d : DS} (h : d.Ok) {i : Int} {s : List UInt8} (hi : d.has i = true) (hs : s.length = 64) : (d.torn1 i s).Ok := by
  have h1 := DS.has_le hi
  have h2 := h.torn
  have hl : (splice d.bs (64 * i.toNat) (s.take d.torn)).length = d.bs.length := len_splice (by simp; omega)
  exact ⟨h.torn, h.lo, h.hi, by show (splice _ _ _).length ≤ _; rw [hl]; exact h.len, by show (splice _ _ _).length % 64 = 0; rw [hl]; exact h.whole, h.wr⟩
theorem DS.Ok.wrote {d : DS} (h : d.Ok) {i : Int} {s : List UInt8} (hi : d.has i = true) (hs : s.length = 64) (hw : d.wr + 1 ≤ 1000000) : (d.wrote i s).Ok := by
  have h1 := DS.has_le hi
  have hl : (splice d.bs (64 * i.toNat) s).length = d.bs.length := len_splice (by omega)
  have l1 := h.lo; have l2 := h.hi
  exact ⟨h.torn, by show _ ≤ (if 0 < d.fuse then d.fuse - 1 else d.fuse); split <;> omega, by show (if 0 < d.fuse then d.fuse - 1 else d.fuse) ≤ _; split <;> omega, by show (splice _ _ _).length ≤ _; rw [hl]; exact h.len, by show (splice _ _ _).length % 64 = 0; rw [hl]; exact h.whole, hw⟩
end Go.Proofs.YtaibmdjcppeopaaGreatDoor
