/- The walk of the law BlockAgain: whatever the arguments, it returns true. Condition: the sentinels lie as the program's text lays them. -/
import Derived.Test.YthlpfedcmiiibaaDoorBlkS
namespace Go.Proofs.YthlpfedcmiiibaaDoor
open Go Go.RowKit

/-- Two disks at once: the one at p, and a later one at q. -/
structure Two (w wk : World) (p g cap : Nat) (d : DS) (q h c : Nat) (x : DS) : Prop where
  one : Carry w wk p g cap d
  two : DiskAt wk q h c x
  low : p < h
theorem Two.on {w wk w' : World} {p g cap q h c : Nat} {d x : DS} (hb : Below wk.heap.size wk w') (t : Two w wk p g cap d q h c x) : Two w w' p g cap d q h c x := ⟨t.one.on hb, t.two.on hb, t.low⟩
theorem Two.drewN {w wk : World} {p g cap q h c : Nat} {d x : DS} (t : Two w wk p g cap d q h c x) (n : Nat) : Two w (wk.drewN n) p g cap d q h c x := ⟨t.one.drewN n, t.two.drewN n, t.low⟩
theorem Two.drew {w wk : World} {p g cap q h c : Nat} {d x : DS} (t : Two w wk p g cap d q h c x) : Two w wk.drew p g cap d q h c x := ⟨t.one.drew, t.two.drew, t.low⟩
theorem Two.step {w wk w' : World} {p g cap q h c : Nat} {d x x' : DS} (t : Two w wk p g cap d q h c x) (hd : DiskAt w' q h c x') (hc : Chg q h wk w') : Two w w' p g cap d q h c x' :=
  have h1 := t.one.disk.lt
  have h2 := t.two.lt
  have h3 := t.low
  ⟨⟨t.one.disk.kept hc (by omega) (by omega) (by omega) (by omega), t.one.below.trans (hc.below (by have := t.one.low; omega) (by have := t.one.low; omega) t.one.below.size), t.one.low⟩, hd, h3⟩
theorem Two.sent {s : Nat → Addr} {w wk : World} {p g cap q h c : Nat} {d x : DS} (t : Two w wk p g cap d q h c x) (hs : Sent s w) : Sent s wk := t.one.sent hs

theorem splice_blk {L cs : List UInt8} {o : Nat} (hl : o + 64 ≤ L.length) (hc : cs.length = 64) : ((splice L o cs).drop o).take 64 = cs := by
  unfold splice
  have h1 : (L.take o).length = o := by simp; omega
  rw [List.drop_append_of_le_length (by omega), List.drop_of_length_le (by omega), List.nil_append, List.take_append_of_le_length (by omega), List.take_of_length_le (by omega)]
theorem wrote_has {d : DS} {i j : Int} {t : List UInt8} (h : d.has i = true) (ht : t.length = 64) : (d.wrote i t).has j = d.has j := by
  have hl := DS.has_le h
  have e : (d.wrote i t).n = d.n := by show (splice _ _ _).length / 64 = _; rw [len_splice (by omega)]; rfl
  unfold DS.has; rw [e]
theorem wrote_read {d : DS} {i : Int} {t : List UInt8} (h : d.has i = true) (ht : t.length = 64) (ho : d.on = true) : (d.wrote i t).read i = (0, t) := by
  have hl := DS.has_le h
  have ho' : (d.wrote i t).on = true := ho
  rw [read_in (by rw [wrote_has h ht]; exact h) ho']
  show (0, ((splice d.bs (64 * i.toNat) t).drop (64 * i.toNat)).take 64) = _
  rw [splice_blk hl ht]
theorem of_again {B : List UInt8} {k : Nat} (hl : B.length = 64 * k) (hk : k ≤ 16) : newD ((strB B).data.toList.take (64 * clampI (((strB B).size : Int) / 64) 4096)) = newD B := by
  have e : (strB B).size = 64 * k := by rw [← hl]; rfl
  have e2 : clampI (((strB B).size : Int) / 64) 4096 = k := by rw [e]; unfold clampI; omega
  rw [e2]
  show newD (B.take (64 * k)) = newD B
  rw [List.take_of_length_le (by omega)]

theorem mod_k (i : Int) (k : Nat) (h0 : 0 < k) (h1 : k ≤ 100) : ∃ m : Nat, m < k ∧ wrap64 ((IntKind.u64.wrap i).tmod (k : Int)) = (m : Int) := by
  have hu : 0 ≤ IntKind.u64.wrap i := by rw [IntKind.wrap_u64]; omega
  have hk : (0 : Int) < (k : Int) := by omega
  have e : (IntKind.u64.wrap i).tmod (k : Int) = IntKind.u64.wrap i % (k : Int) := Int.tmod_eq_emod_of_nonneg hu
  have hlo := Int.emod_nonneg (IntKind.u64.wrap i) (Int.ne_of_gt hk)
  have hhi := Int.emod_lt_of_pos (IntKind.u64.wrap i) hk
  refine ⟨(IntKind.u64.wrap i % (k : Int)).toNat, by omega, ?_⟩
  rw [e]
  have hw : wrap64 (IntKind.u64.wrap i % (k : Int)) = IntKind.u64.wrap i % (k : Int) := by
    generalize IntKind.u64.wrap i % (k : Int) = z at hlo hhi
    unfold wrap64; omega
  rw [hw]; omega

set_option maxHeartbeats 1600000 in
set_option maxRecDepth 100000 in
theorem again_long (s : Nat → Addr) (T : ByteArray) (i : Int) (b : UInt8) (w : World) (hs : Sent s w) (hT : T.size ≤ 9223372036854775807) (hl : 1024 < T.size) :
    Calls Tryd.prog 6 #[.string T, .int .i64 i, .int .u8 (b.toNat : Int)] w fun e w' => e = .returned (.bool true) ∧ Below w.heap.size w w' := by
  go_enter Tryd.func6, Tryd.ntmps6
  go_wp2_with fail
  refine (awake_c s _ hs).mono ?_
  rintro e w1 ⟨rfl, hb1⟩
  go_wp2_with fail
  go_ret
  exact ⟨rfl, by (repeat' (first | (with_reducible exact Below.refl _ _) | (with_reducible refine below_drewN ?_ _) | (with_reducible refine Below.drew ?_) | (with_reducible refine Below.alloc ?_ ?_ _) | (with_reducible refine Below.setCell ?_ ?_ _) | (with_reducible refine Below.trans ?_ (Below.mono (by with_reducible assumption) ?_)) | omega | (simp only [World.size_alloc, World.size_setCell, World.size_drew, Go.Proofs.YthlpfedcmiiibaaDoor.World.size_drewN] at *; omega) | (with_reducible refine Below.size (B := 0) ?_)))⟩

set_option maxHeartbeats 3200000 in
set_option maxRecDepth 100000 in
theorem again_walk (s : Nat → Addr) (T : ByteArray) (i : Int) (b : UInt8) (w : World) (hs : Sent s w) (hl : T.size ≤ 1024) (h0 : -9223372036854775808 ≤ i) (h1 : i ≤ 9223372036854775807) :
    Calls Tryd.prog 6 #[.string T, .int .i64 i, .int .u8 (b.toNat : Int)] w fun e w' => e = .returned (.bool true) ∧ Below w.heap.size w w' := by
  obtain ⟨k, hk⟩ : ∃ k, k = T.size / 64 := ⟨_, rfl⟩
  obtain ⟨B, hB⟩ : ∃ B, B = T.data.toList.take (64 * k) := ⟨_, rfl⟩
  have hBl : B.length = 64 * k := by rw [hB]; simp; omega
  have hk16 : k ≤ 16 := by omega
  have hD : newD (T.data.toList.take (64 * clampI ((T.size : Int) / 64) 4096)) = newD B := by rw [clamp_q T hl, hB, hk]
  have hn : (newD B).n = k := by unfold DS.n newD; simp; omega
  have HD := Lib.hid hD; clear hD
  have HX : Hid (newD ((strB B).data.toList.take (64 * clampI (((strB B).size : Int) / 64) 4096)) = newD B) := Lib.hid (of_again hBl hk16)
  have HBL := Lib.hid hBl; clear hBl
  have HN := Lib.hid hn; clear hn
  clear hB
  have HKD := Lib.hid hk; clear hk
  go_enter Tryd.func6, Tryd.ntmps6
  go_wp2_with fail
  refine (awake_c s _ hs).mono ?_
  rintro e w1 ⟨rfl, hb1⟩
  have HS := Lib.hid (hs.below hb1 (Nat.le_refl _)); clear hs
  go_wp2_with fail
  refine (of_c T _ (by omega)).mono ?_
  rintro e w2 ⟨p, g, cap, rfl, d2, b2, g2⟩
  rw [HD.out] at d2
  have K2 : Hid (Carry w1 w2 p g cap (newD B)) := Lib.hid ⟨d2, b2, g2⟩
  clear d2 b2 g2
  go_wp2_with fail
  refine (image_c p g cap _ _ K2.out.disk).mono ?_
  rintro e w3 ⟨rfl, rfl⟩
  go_wp2_with fail
  refine (of_c (strB B) _ (by have := HBL.out; show B.length ≤ _; omega)).mono ?_
  rintro e w4 ⟨q, h, c, rfl, d4, b4, g4⟩
  rw [HX.out] at d4
  have K4 : Hid (Two w1 w4 p g cap (newD B) q h c (newD B)) := Lib.hid ⟨K2.out.on b4, d4, by have := K2.out.disk.lt; omega⟩
  clear K2 d4 b4 g4
  go_wp2_with fail
  refine (image_c q h c _ _ K4.out.two).mono ?_
  rintro e w5 ⟨rfl, rfl⟩
  go_wp2_with fail
  refine (image_c p g cap _ _ K4.out.one.disk).mono ?_
  rintro e w5 ⟨rfl, rfl⟩
  go_wp2_with fail
  refine (len_c q h c _ _ K4.out.two).mono ?_
  rintro e w5 ⟨rfl, rfl⟩
  go_wp2_with fail
  refine (len_c p g cap _ _ K4.out.one.disk).mono ?_
  rintro e w5 ⟨rfl, rfl⟩
  rw [HN.out]
  go_wp2_with fail
  refine (len_c p g cap _ _ K4.out.one.disk).mono ?_
  rintro e w5 ⟨rfl, rfl⟩
  rw [HN.out]
  by_cases hk0 : k = 0
  · subst hk0
    go_wp2_with fail
    refine (full_c b _).mono ?_
    rintro e w6 ⟨rfl, b6⟩
    have K6 := Lib.hid (K4.out.on b6); clear K4 b6
    go_wp2_with fail
    have hno : (newD B).write 0 (strB (fullB b)).data.toList = (1, newD B) := write_no (.inl (by unfold DS.has; rw [HN.out]; rfl))
    refine (write_c s q h c _ 0 _ _ (K6.out.sent HS.out) K6.out.two (by show 64 ≤ _; omega) (by show 1 ≤ _; omega)).mono ?_
    rw [hno]
    rintro e w7 ⟨rfl, d7, c7⟩
    have K7 := Lib.hid (K6.out.step d7 c7); clear K6 d7 c7 hno
    go_wp2_with fail
    refine (kind_errV s 1 _ (K7.out.sent HS.out) (by omega)).mono ?_
    rintro e w8 ⟨rfl, b8⟩
    have K8 := Lib.hid (K7.out.on b8); clear K7 b8
    go_wp2_with fail
    go_ret
    exact ⟨rfl, hb1.trans (K8.out.one.below.mono hb1.size)⟩
  · have hkp : (0 : Int) < (k : Int) := by omega
    have hkz : ((k : Int) == 0) = false := by rw [beq_eq_false_iff_ne]; omega
    go_wp2_with fail
    refine (len_c p g cap _ _ K4.out.one.disk).mono ?_
    rintro e w5 ⟨rfl, rfl⟩
    rw [HN.out]
    go_wp2_with fail
    obtain ⟨m, hm, e⟩ := mod_k i k (by omega) (by omega)
    rw [e]
    clear e
    have hhas : (newD B).has (m : Int) = true := by rw [DS.has_iff, HN.out]; omega
    have hwr : Hid ((newD B).write (m : Int) (strB (fullB b)).data.toList = (0, (newD B).wrote (m : Int) (fullB b))) := Lib.hid (write_whole hhas (fullB_len b) rfl (by show (-1 : Int) ≠ 0; decide))
    have hbl := DS.has_le hhas
    have hrd : Hid (((newD B).wrote (m : Int) (fullB b)).read (m : Int) = (0, fullB b)) := Lib.hid (wrote_read hhas (fullB_len b) rfl)
    refine (image_c p g cap _ _ K4.out.one.disk).mono ?_
    rintro e w6 ⟨rfl, rfl⟩
    go_wp2_with fail
    refine (full_c b _).mono ?_
    rintro e w6 ⟨rfl, b6⟩
    have K6 := Lib.hid (K4.out.on b6); clear K4 b6
    go_wp2_with fail
    refine (write_c s q h c _ (m : Int) _ _ (K6.out.sent HS.out) K6.out.two (by show 64 ≤ _; omega) (by show 1 ≤ _; omega)).mono ?_
    rw [hwr.out]
    rintro e w7 ⟨rfl, d7, c7⟩
    have K7 := Lib.hid (K6.out.step d7 c7); clear K6 d7 c7
    simp only [errV_zero]
    go_wp2_with fail
    refine (image_c p g cap _ _ K7.out.one.disk).mono ?_
    rintro e w8 ⟨rfl, rfl⟩
    go_wp2_with fail
    refine (writes_c p g cap _ _ K7.out.one.disk).mono ?_
    rintro e w8 ⟨rfl, rfl⟩
    rw [show (newD B).wr = 0 from rfl]
    go_wp2_with fail
    refine (writes_c q h c _ _ K7.out.two).mono ?_
    rintro e w8 ⟨rfl, rfl⟩
    rw [show ((newD B).wrote (m : Int) (fullB b)).wr = 1 from rfl]
    go_wp2_with fail
    refine (read_c s q h c _ (m : Int) _ (K7.out.sent HS.out) K7.out.two).mono ?_
    rw [hrd.out]
    rintro e w8 ⟨rfl, nd, rfl⟩
    have K8 := Lib.hid (K7.out.drewN nd); clear K7
    simp only [errV_zero]
    go_wp2_with fail
    refine (full_c b _).mono ?_
    rintro e w9 ⟨rfl, b9⟩
    have K9 := Lib.hid (K8.out.on b9); clear K8 b9
    go_wp2_with fail
    go_ret
    exact ⟨rfl, hb1.trans (K9.out.one.below.mono hb1.size)⟩

theorem again_any (s : Nat → Addr) (T : ByteArray) (i : Int) (b : UInt8) (w : World) (hs : Sent s w) (hT : T.size ≤ 9223372036854775807) (h0 : -9223372036854775808 ≤ i) (h1 : i ≤ 9223372036854775807) :
    Calls Tryd.prog 6 #[.string T, .int .i64 i, .int .u8 (b.toNat : Int)] w fun e w' => e = .returned (.bool true) ∧ Below w.heap.size w w' := by
  by_cases hl : T.size ≤ 1024
  · exact again_walk s T i b w hs hl h0 h1
  · exact again_long s T i b w hs hT (by omega)
end Go.Proofs.YthlpfedcmiiibaaDoor
