/- A sound log in memory: made, opened, added to; and the document's examples. Conditions: the sentinels lie as the program's text lays them; there is power and no fuse; the disk has seen fewer than a million writes. -/
import Derived.Test.YtemdibhafkcflaaDoorLgK
namespace Go.Proofs.YtemdibhafkcflaaDoor
open Go Go.RowKit

theorem zero_blk {n i : Nat} (h : i < n) : (newD (List.replicate (64 * n) 0)).blk i = zeroF := by
  show ((List.replicate (64 * n) (0 : UInt8)).drop (64 * i)).take 64 = zeroF
  rw [List.drop_replicate, List.take_replicate, Nat.min_eq_left (by omega)]; rfl
theorem zero_rows {n a m : Nat} (h : a + m ≤ n) : rowsD (newD (List.replicate (64 * n) 0)) a m = List.replicate m zeroF :=
  rowsD_eq (by simp) fun i hi => by rw [List.getElem?_replicate_of_lt hi, zero_blk (by omega)]
/-- A new disk of n blocks. -/
structure FreshD (w : World) (p g cap n : Nat) (d : DS) : Prop where
  at_ : DiskAt w p g cap d
  n_ : d.n = n
  on : d.on = true
  fuse : d.fuse < 0
  wr : d.wr = 0
  rows : ∀ a m, a + m ≤ n → rowsD d a m = List.replicate m zeroF
theorem fresh_c (x : Int) (n : Nat) (w : World) (hx : x = (n : Int)) (hn : n ≤ 4096) :
    Calls Tryd.prog 7 #[.int .i64 x] w fun e w' => ∃ p g cap d, e = .returned (.pointer (some ⟨p, 0, none⟩)) ∧ FreshD w' p g cap n d ∧ Below w.heap.size w w' ∧ w.heap.size ≤ g := by
  subst hx
  refine (new_c (n : Int) w (by omega) (by omega)).mono ?_
  rintro e w1 ⟨p, g, cap, rfl, hd, hb, hg⟩
  have e1 : clampI (n : Int) 4096 = n := by unfold clampI; omega
  rw [e1] at hd
  exact ⟨p, g, cap, _, rfl, ⟨hd, by unfold DS.n newD; simp, rfl, by show (-1 : Int) < 0; omega, rfl, fun a m h => zero_rows h⟩, hb, hg⟩

/-- A log that is sound; its disk has seen at most k writes. -/
structure Live (w : World) (B q p g cap a m b : Nat) (v : Value) (rs : List (List UInt8)) (k : Nat) (d : DS) : Prop where
  mem : LogMem w B q p g cap d a m b v rs false
  at_ : LogAt d a m b rs
  on : d.on = true
  fuse : d.fuse < 0
  wr : d.wr ≤ k
theorem Live.kept {w w' : World} {S : Nat → Prop} {B q p g cap a m b k : Nat} {v : Value} {rs : List (List UInt8)} {d : DS} (h : Live w B q p g cap a m b v rs k d) (hc : ChgS S w w') (hS : ∀ k, LogS q p g v k → ¬ S k) : Live w' B q p g cap a m b v rs k d :=
  ⟨h.mem.kept hc hS, h.at_, h.on, h.fuse, h.wr⟩
theorem Live.same {w w' : World} {B q p g cap a m b k : Nat} {v : Value} {rs : List (List UInt8)} {d : DS} (h : Live w B q p g cap a m b v rs k d) (hs : Same w w') : Live w' B q p g cap a m b v rs k d := ⟨h.mem.same hs, h.at_, h.on, h.fuse, h.wr⟩
theorem Live.below {w w' : World} {B C q p g cap a m b k : Nat} {v : Value} {rs : List (List UInt8)} {d : DS} (h : Live w B q p g cap a m b v rs k d) (hb : Below C w w') (hC : w.heap.size ≤ C) : Live w' B q p g cap a m b v rs k d := ⟨h.mem.below hb hC, h.at_, h.on, h.fuse, h.wr⟩
theorem Live.le {w : World} {B q p g cap a m b k k' : Nat} {v : Value} {rs : List (List UInt8)} {d : DS} (h : Live w B q p g cap a m b v rs k d) (hk : k ≤ k') : Live w B q p g cap a m b v rs k' d := ⟨h.mem, h.at_, h.on, h.fuse, Nat.le_trans h.wr hk⟩
/-- Another log of the same disk wrote: this one's own memory is as it was. -/
theorem LogMem.other {w w' : World} {S : Nat → Prop} {B q p g cap : Nat} {d e : DS} {a m b : Nat} {v : Value} {rs : List (List UInt8)} {fell : Bool} (h : LogMem w B q p g cap d a m b v rs fell) (hc : ChgS S w w') (hq : ¬ S q) (hv : ∀ k, v.ownBlock = some k → ¬ S k) (hd : DiskAt w' p g cap e) (hn : e.n = d.n) :
    LogMem w' B q p g cap e a m b v rs fell :=
  ⟨hc.row h.blk hq, hd, hc.own h.own hv, h.nil0, h.lo, h.ne, by rw [hn]; exact h.fits, h.room, h.base, h.apart⟩

theorem live_open (s : Nat → Addr) (w0 : World) (p g cap : Nat) (d : DS) (a m b k : Nat) (rs : List (List UInt8)) (x y z : Int) (w : World) (hs : Sent s w0) (hb : Below w0.heap.size w0 w) (h : DiskAt w p g cap d) (hlo : w0.heap.size ≤ g) (hx : x = (a : Int)) (hy : y = ((a + m : Nat) : Int)) (hz : z = (b : Int))
    (hm0 : 0 < m) (hfit : a + m ≤ d.n) (hbb : b ≤ 1073741824) (ho : d.on = true) (hf : d.fuse < 0) (hk : d.wr ≤ k) (hw : k + m ≤ 1000000) (hfol : Follows (rowsD d a m) b rs) :
    Calls Tryd.prog 8 #[.pointer (some ⟨p, 0, none⟩), .int .i64 x, .int .i64 y, .int .i64 z] w fun e w' => ∃ q v d', e = .returned (.tuple #[.pointer (some ⟨q, 0, none⟩), .nilIface]) ∧ Live w' w0.heap.size q p g cap a m b v rs (k + m) d' ∧ ChgS (fun i => i = p ∨ i = g) w w' ∧ w.heap.size ≤ q ∧
      (∀ i, v.ownBlock = some i → w.heap.size ≤ i) ∧ d'.n = d.n ∧ (∀ j, (j < a ∨ a + m ≤ j) → d'.blk j = d.blk j) ∧ Below w0.heap.size w0 w' := by
  obtain ⟨hU, d', hwp, hat, hlike, hon, hfu, hout⟩ := open_ok hfol hfit ho hf
  have hwn := wipe_n (d := d) (m := m - (layR b rs).length) (i := a + (layR b rs).length) (by omega) ho
  refine (open_c s w0 p g cap d a m b rs x y z w hs hb h hlo hx hy hz hm0 hfit hbb ho (by omega) hfol (by rw [hwp])).mono ?_
  rintro e w1 ⟨q, v, rfl, hm, hc, hq, hv⟩
  rw [hwp] at hm hwn
  exact ⟨q, v, d', rfl, ⟨hm, hat, hon, by rw [hfu]; exact hf, show d'.wr ≤ k + m from Nat.le_trans hwn.2 (by omega)⟩, hc, hq, hv, hlike.n, hout, hb.trans (hc.below (fun i hi => by have := h.lt; omega) hb.size)⟩

theorem live_add (s : Nat → Addr) (w0 : World) (q p g cap a m b k : Nat) (v : Value) (rs : List (List UInt8)) (d : DS) (T : ByteArray) (w : World) (hs : Sent s w0) (hb : Below w0.heap.size w0 w) (h : Live w w0.heap.size q p g cap a m b v rs k d)
    (hT : T.size ≤ 6000) (hroom : nblk T.size ≤ m - (layR b rs).length) (hnext : b + rs.length + 1 < 1073741824) (hw : k + 108 ≤ 1000000) :
    Calls Tryd.prog 10 #[.pointer (some ⟨q, 0, none⟩), .string T] w fun e w' => e = .returned .nilIface ∧ ∃ v' d', Live w' w0.heap.size q p g cap a m b v' (rs ++ [T.data.toList]) (k + 108) d' ∧ ChgS (LogS q p g v) w w' ∧ (∀ i, v'.ownBlock = some i → v.ownBlock = some i ∨ w.heap.size ≤ i) ∧ d'.n = d.n ∧
      (∀ j, (j < a ∨ a + m ≤ j) → d'.blk j = d.blk j) ∧ Below w0.heap.size w0 w' := by
  have hwr := h.wr
  have hnb := (nblk_bd hT).2
  have hsl : T.data.toList.length = T.size := size_len T
  obtain ⟨d', hp, hat, hlike, hon, hfu, hwr', hout⟩ := h.at_.add (x := T.data.toList) (by omega) (by omega) (by rw [hsl]; exact hroom) h.on (.inl h.fuse)
  refine (add_c s w0 q p g cap d a m b v rs T w hs hb h.mem hT hroom hnext h.on (by omega)).mono ?_
  rintro e w1 (⟨_, rfl, v', hm, hc, hv⟩ | ⟨h1, _⟩)
  · rw [hp] at hm
    exact ⟨rfl, v', d', ⟨hm, hat, hon, by rw [hfu]; unfold fuseS; rw [if_pos h.fuse]; exact h.fuse, by show d'.wr ≤ _; rw [hsl] at hwr'; omega⟩, hc, hv, hlike.n, hout, hb.trans (hc.below (fun i hi => (h.mem.lts i hi).1) hb.size)⟩
  · rw [hp] at h1; cases h1

theorem fresh_follows {w : World} {p g cap n a m b : Nat} {d : DS} (h : FreshD w p g cap n d) (hfit : a + m ≤ n) (hb : b ≤ 2147483647) : Follows (rowsD d a m) b [] := by
  rw [h.rows a m hfit]
  have := follows_zeros (b := b) (m := m) (rs := []) (by simp) (by simpa using hb)
  simpa [layR] using this
theorem hello_size : (⟨#[104, 101, 108, 108, 111]⟩ : ByteArray).size = 5 := rfl

set_option maxHeartbeats 3200000 in
set_option maxRecDepth 100000 in
/-- The examples of the document stand. -/
theorem awake_c (s : Nat → Addr) (w : World) (hs : Sent s w) :
    Calls Tryd.prog 6 #[] w fun e w' => e = .returned (.bool true) ∧ Below w.heap.size w w' := by
  obtain ⟨T, hT⟩ : ∃ T : ByteArray, T = ⟨#[104, 101, 108, 108, 111]⟩ := ⟨_, rfl⟩
  have hTs : T.size = 5 := by rw [hT]; rfl
  go_enter Tryd.func6, Tryd.ntmps6
  go_wp2_with fail
  refine (fresh_c 5 5 _ rfl (by omega)).mono ?_
  rintro e w1 ⟨p, g, cap, d, rfl, hd, b1, hg⟩
  have hop := live_open s w p g cap d 1 3 10 0 [] 1 4 10 w1 hs b1 hd.at_ hg rfl rfl rfl (by omega) (by have := hd.n_; omega) (by omega) hd.on hd.fuse (by have := hd.wr; omega) (by omega) (fresh_follows hd (by omega) (by omega))
  have HOP := Lib.hid hop
  have B1 := Lib.hid b1
  have hdn := hd.n_
  clear hop hd b1
  go_wp2_with fail
  refine (HOP.out).mono ?_
  rintro e w2 ⟨q, v, d2, rfl, hl2, hc2, hq2, hv2, hn2, _, hb2⟩
  have had := live_add s w q p g cap 1 3 10 3 v [] d2 T w2 hs hb2 hl2 (by omega) (by rw [hTs]; decide) (by simp) (by omega)
  rw [hT] at had
  have HAD := Lib.hid had
  have B2 := Lib.hid hb2
  clear had hl2 hc2 hb2 HOP hv2
  go_wp2_with fail
  refine (HAD.out).mono ?_
  rintro e w3 ⟨rfl, v3, d3, hl3, hc3, hv3, hn3, _, hb3⟩
  rw [List.nil_append] at hl3
  have hop := live_open s w p g cap d3 1 3 10 200 _ 1 4 10 w3 hs hb3 hl3.mem.disk (Nat.le_trans hl3.mem.lo (Nat.le_refl _)) rfl rfl rfl (by omega) (by omega) (by omega) hl3.on hl3.fuse (by have := hl3.wr; omega) (by omega) hl3.at_.follows
  have HOP := Lib.hid hop
  have HL3 := Lib.hid hl3
  clear hl3 hc3 hv3 HAD hop hb3
  go_wp2_with fail
  refine (HOP.out).mono ?_
  rintro e w4 ⟨q4, v4, d4, rfl, hl4, hc4, hq4, hv4, hn4, _, hb4⟩
  have hlt3 := HL3.out.mem.lt
  have hm3 := HL3.out.mem.other hc4 (by rintro (h | h) <;> omega) (fun k hk hS => by obtain ⟨h1, h2, h3⟩ := HL3.out.mem.apart k hk; rcases hS with h | h <;> contradiction) hl4.mem.disk hn4
  have hlay : (layR 10 [(⟨#[104, 101, 108, 108, 111]⟩ : ByteArray).data.toList]).length = 1 := by rw [layR, List.length_append, framesF_len]; rfl
  have HL4 := Lib.hid hl4; have HM3 := Lib.hid hm3; have HB4 := Lib.hid hb4; have HLAY := Lib.hid hlay
  clear hl4 hc4 hv4 hb4 hm3 HOP HL3 hlay
  go_wp2_with fail
  refine (records_c w.heap.size q4 p g cap d4 1 3 10 v4 _ false _ HL4.out.mem).mono ?_
  rintro e w5 ⟨⟨v5, rfl, o5⟩, b5⟩
  have HL5 := Lib.hid (HL4.out.below b5 (Nat.le_refl _))
  have HM5 := Lib.hid (HM3.out.below b5 (Nat.le_refl _))
  have HB5 : Hid (Below w.heap.size w w5) := Lib.hid (HB4.out.trans (b5.mono HB4.out.size))
  have HR5 := Lib.hid (own_reads o5)
  clear o5 b5 HL4 HM3 HB4
  go_wp2_with fail
  have b6 : Below w5.heap.size w5 (w5.alloc (.cells #[.string ⟨#[104, 101, 108, 108, 111]⟩] 9)) := (Below.refl _ _).alloc (Nat.le_refl _) _
  refine (same_c _ _ _ _ _ (HR5.out.below b6 (Nat.le_refl _)) (reads_one w5 ⟨#[104, 101, 108, 108, 111]⟩) (by simp) (by simp)).mono ?_
  rintro e w6 ⟨he, h6⟩
  rw [decide_eq_true rfl] at he
  subst he
  have HL6 := Lib.hid ((HL5.out.below b6 (Nat.le_refl _)).same h6)
  have HM6 := Lib.hid ((HM5.out.below b6 (Nat.le_refl _)).same h6)
  have HB6 : Hid (Below w.heap.size w w6) := Lib.hid ((HB5.out.trans (b6.mono HB5.out.size)).trans (h6.below _))
  clear b6 h6 HL5 HM5 HB5 HR5
  go_wp2_with fail
  refine (next_c _ q4 p g cap d4 1 3 10 v4 _ false _ HL6.out.mem).mono ?_
  rintro e w7 ⟨rfl, h7⟩
  have HL7 := Lib.hid (HL6.out.same h7)
  have HM7 := Lib.hid (HM6.out.same h7)
  have HB7 : Hid (Below w.heap.size w w7) := Lib.hid (HB6.out.trans (h7.below _))
  clear h7 HL6 HM6 HB6
  go_wp2_with fail
  have hr8 := room_c _ q4 p g cap d4 1 3 10 v4 _ false _ HL7.out.mem
  rw [HLAY.out] at hr8
  refine hr8.mono ?_
  rintro e w8 ⟨rfl, h8⟩
  have HM8 := Lib.hid (HM7.out.same h8)
  have HB8 : Hid (Below w.heap.size w w8) := Lib.hid (HB7.out.trans (h8.below _))
  clear h8 hr8 HL7 HM7 HB7
  go_wp2_with fail
  have hr9 := room_c _ q p g cap d4 1 3 10 v3 _ false _ HM8.out
  rw [HLAY.out] at hr9
  refine hr9.mono ?_
  rintro e w9 ⟨rfl, h9⟩
  have HB9 : Hid (Below w.heap.size w w9) := Lib.hid (HB8.out.trans (h9.below _))
  clear h9 hr9 HM8 HB8
  go_wp2_with fail
  go_ret
  exact ⟨rfl, HB9.out⟩
end Go.Proofs.YtemdibhafkcflaaDoor
