/- A sound log in memory: made, opened, added to. Conditions: the sentinels lie as the program's text lays them; there is power and no fuse; the disk has seen fewer than a million writes. -/
import Derived.Test.YtaibmdjcppeopaaGreatDoorLgRd
namespace Go.Proofs.YtaibmdjcppeopaaGreatDoor
open Go Go.RowKit

theorem zero_blk {n i : Nat} (h : i < n) : (newD (List.replicate (64 * n) 0)).blk i = zeroF := by
  show ((List.replicate (64 * n) (0 : UInt8)).drop (64 * i)).take 64 = zeroF
  rw [List.drop_replicate, List.take_replicate, Nat.min_eq_left (by omega)]; rfl
theorem zero_rows {n a m : Nat} (h : a + m ≤ n) : rowsD (newD (List.replicate (64 * n) 0)) a m = List.replicate m zeroF :=
  rowsD_eq (by simp) fun i hi => by rw [List.getElem?_replicate_of_lt hi, zero_blk (by omega)]
/-- A new disk of n blocks. -/
structure FreshD (w : World) (p g cap n : Nat) (d : DS) : Prop where
  at_ : DiskAt w p g cap d
  n_ : d.n = n
  on : d.on = true
  fuse : d.fuse < 0
  wr : d.wr = 0
  rows : ∀ a m, a + m ≤ n → rowsD d a m = List.replicate m zeroF
theorem fresh_c (x : Int) (n : Nat) (w : World) (hx : x = (n : Int)) (hn : n ≤ 4096) :
    Calls Tryz.prog 22 #[.int .i64 x] w fun e w' => ∃ p g cap d, e = .returned (.pointer (some ⟨p, 0, none⟩)) ∧ FreshD w' p g cap n d ∧ Below w.heap.size w w' ∧ w.heap.size ≤ g := by
  subst hx
  refine (new_c (n : Int) w (by omega) (by omega)).mono ?_
  rintro e w1 ⟨p, g, cap, rfl, hd, hb, hg⟩
  have e1 : clampI (n : Int) 4096 = n := by unfold clampI; omega
  rw [e1] at hd
  exact ⟨p, g, cap, _, rfl, ⟨hd, by unfold DS.n newD; simp, rfl, by show (-1 : Int) < 0; omega, rfl, fun a m h => zero_rows h⟩, hb, hg⟩

/-- A log that is sound; its disk has seen at most k writes. -/
structure Live (w : World) (B q p g cap a m b : Nat) (v : Value) (rs : List (List UInt8)) (k : Nat) (d : DS) : Prop where
  mem : LogMem w B q p g cap d a m b v rs false
  at_ : LogAt d a m b rs
  on : d.on = true
  fuse : d.fuse < 0
  wr : d.wr ≤ k
theorem Live.kept {w w' : World} {S : Nat → Prop} {B q p g cap a m b k : Nat} {v : Value} {rs : List (List UInt8)} {d : DS} (h : Live w B q p g cap a m b v rs k d) (hc : ChgS S w w') (hS : ∀ k, LogS q p g v k → ¬ S k) : Live w' B q p g cap a m b v rs k d :=
  ⟨h.mem.kept hc hS, h.at_, h.on, h.fuse, h.wr⟩
theorem Live.same {w w' : World} {B q p g cap a m b k : Nat} {v : Value} {rs : List (List UInt8)} {d : DS} (h : Live w B q p g cap a m b v rs k d) (hs : Same w w') : Live w' B q p g cap a m b v rs k d := ⟨h.mem.same hs, h.at_, h.on, h.fuse, h.wr⟩
theorem Live.below {w w' : World} {B C q p g cap a m b k : Nat} {v : Value} {rs : List (List UInt8)} {d : DS} (h : Live w B q p g cap a m b v rs k d) (hb : Below C w w') (hC : w.heap.size ≤ C) : Live w' B q p g cap a m b v rs k d := ⟨h.mem.below hb hC, h.at_, h.on, h.fuse, h.wr⟩
theorem Live.le {w : World} {B q p g cap a m b k k' : Nat} {v : Value} {rs : List (List UInt8)} {d : DS} (h : Live w B q p g cap a m b v rs k d) (hk : k ≤ k') : Live w B q p g cap a m b v rs k' d := ⟨h.mem, h.at_, h.on, h.fuse, Nat.le_trans h.wr hk⟩
/-- Another log of the same disk wrote: this one's own memory is as it was. -/
theorem LogMem.other {w w' : World} {S : Nat → Prop} {B q p g cap : Nat} {d e : DS} {a m b : Nat} {v : Value} {rs : List (List UInt8)} {fell : Bool} (h : LogMem w B q p g cap d a m b v rs fell) (hc : ChgS S w w') (hq : ¬ S q) (hv : ∀ k, v.ownBlock = some k → ¬ S k) (hd : DiskAt w' p g cap e) (hn : e.n = d.n) :
    LogMem w' B q p g cap e a m b v rs fell :=
  ⟨hc.row h.blk hq, hd, hc.own h.own hv, h.nil0, h.lo, h.ne, by rw [hn]; exact h.fits, h.room, h.base, h.apart⟩

theorem live_open (s : Nat → Addr) (w0 : World) (p g cap : Nat) (d : DS) (a m b k : Nat) (rs : List (List UInt8)) (x y z : Int) (w : World) (hs : Sent s w0) (hb : Below w0.heap.size w0 w) (h : DiskAt w p g cap d) (hlo : w0.heap.size ≤ g) (hx : x = (a : Int)) (hy : y = ((a + m : Nat) : Int)) (hz : z = (b : Int))
    (hm0 : 0 < m) (hfit : a + m ≤ d.n) (hbb : b ≤ 1073741824) (ho : d.on = true) (hf : d.fuse < 0) (hk : d.wr ≤ k) (hw : k + m ≤ 1000000) (hfol : Follows (rowsD d a m) b rs) :
    Calls Tryz.prog 27 #[.pointer (some ⟨p, 0, none⟩), .int .i64 x, .int .i64 y, .int .i64 z] w fun e w' => ∃ q v d', e = .returned (.tuple #[.pointer (some ⟨q, 0, none⟩), .nilIface]) ∧ Live w' w0.heap.size q p g cap a m b v rs (k + m) d' ∧ ChgS (fun i => i = p ∨ i = g) w w' ∧ w.heap.size ≤ q ∧
      (∀ i, v.ownBlock = some i → w.heap.size ≤ i) ∧ d'.n = d.n ∧ (∀ j, (j < a ∨ a + m ≤ j) → d'.blk j = d.blk j) ∧ Below w0.heap.size w0 w' := by
  obtain ⟨hU, d', hwp, hat, hlike, hon, hfu, hout⟩ := open_ok hfol hfit ho hf
  have hwn := wipe_n (d := d) (m := m - (layR b rs).length) (i := a + (layR b rs).length) (by omega) ho
  refine (open_c s w0 p g cap d a m b rs x y z w hs hb h hlo hx hy hz hm0 hfit hbb ho (by omega) hfol (by rw [hwp])).mono ?_
  rintro e w1 ⟨q, v, rfl, hm, hc, hq, hv⟩
  rw [hwp] at hm hwn
  exact ⟨q, v, d', rfl, ⟨hm, hat, hon, by rw [hfu]; exact hf, show d'.wr ≤ k + m from Nat.le_trans hwn.2 (by omega)⟩, hc, hq, hv, hlike.n, hout, hb.trans (hc.below (fun i hi => by have := h.lt; omega) hb.size)⟩

theorem live_add (s : Nat → Addr) (w0 : World) (q p g cap a m b k : Nat) (v : Value) (rs : List (List UInt8)) (d : DS) (T : ByteArray) (w : World) (hs : Sent s w0) (hb : Below w0.heap.size w0 w) (h : Live w w0.heap.size q p g cap a m b v rs k d)
    (hT : T.size ≤ 6000) (hroom : nblk T.size ≤ m - (layR b rs).length) (hnext : b + rs.length + 1 < 1073741824) (hw : k + 108 ≤ 1000000) :
    Calls Tryz.prog 37 #[.pointer (some ⟨q, 0, none⟩), .string T] w fun e w' => e = .returned .nilIface ∧ ∃ v' d', Live w' w0.heap.size q p g cap a m b v' (rs ++ [T.data.toList]) (k + 108) d' ∧ ChgS (LogS q p g v) w w' ∧ (∀ i, v'.ownBlock = some i → v.ownBlock = some i ∨ w.heap.size ≤ i) ∧ d'.n = d.n ∧
      (∀ j, (j < a ∨ a + m ≤ j) → d'.blk j = d.blk j) ∧ Below w0.heap.size w0 w' := by
  have hwr := h.wr
  have hnb := (nblk_bd hT).2
  have hsl : T.data.toList.length = T.size := size_len T
  obtain ⟨d', hp, hat, hlike, hon, hfu, hwr', hout⟩ := h.at_.add (x := T.data.toList) (by omega) (by omega) (by rw [hsl]; exact hroom) h.on (.inl h.fuse)
  refine (add_c s w0 q p g cap d a m b v rs T w hs hb h.mem hT hroom hnext h.on (by omega)).mono ?_
  rintro e w1 (⟨_, rfl, v', hm, hc, hv⟩ | ⟨h1, _⟩)
  · rw [hp] at hm
    exact ⟨rfl, v', d', ⟨hm, hat, hon, by rw [hfu]; unfold fuseS; rw [if_pos h.fuse]; exact h.fuse, by show d'.wr ≤ _; rw [hsl] at hwr'; omega⟩, hc, hv, hlike.n, hout, hb.trans (hc.below (fun i hi => (h.mem.lts i hi).1) hb.size)⟩
  · rw [hp] at h1; cases h1

theorem fresh_follows {w : World} {p g cap n a m b : Nat} {d : DS} (h : FreshD w p g cap n d) (hfit : a + m ≤ n) (hb : b ≤ 2147483647) : Follows (rowsD d a m) b [] := by
  rw [h.rows a m hfit]
  have := follows_zeros (b := b) (m := m) (rs := []) (by simp) (by simpa using hb)
  simpa [layR] using this
end Go.Proofs.YtaibmdjcppeopaaGreatDoor
