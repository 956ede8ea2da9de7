/- The walks of the laws BlockSizes and BlockAgain: whatever the arguments, they return true. Condition: the sentinels lie as the program's text lays them. -/
import Derived.Test.YthlpfedcmiiibaaDoorBlkA
import Derived.Lib.Strings
namespace Go.Proofs.YthlpfedcmiiibaaDoor
open Go Go.RowKit

theorem rep_blk (m : Nat) (k : Nat) (h : 64 * k + 64 ≤ 64 * m) : (newD (List.replicate (64 * m) 0)).blk k = fullB 0 := by
  unfold DS.blk newD fullB
  rw [List.drop_replicate, List.take_replicate]
  congr 1; omega
theorem rep_n (m : Nat) : (newD (List.replicate (64 * m) 0)).n = m := by unfold DS.n newD; simp

set_option maxHeartbeats 1600000 in
set_option maxRecDepth 100000 in
theorem sizes_long (s : Nat → Addr) (n : Int) (T : ByteArray) (w : World) (hs : Sent s w) (hT : T.size ≤ 9223372036854775807) (hl : 1024 < T.size) :
    Calls Tryd.prog 5 #[.int .i64 n, .string T] w fun e w' => e = .returned (.bool true) ∧ Below w.heap.size w w' := by
  go_enter Tryd.func5, Tryd.ntmps5
  go_wp2_with fail
  refine (awake_c s _ hs).mono ?_
  rintro e w1 ⟨rfl, hb1⟩
  go_wp2_with fail
  go_ret
  exact ⟨rfl, by (repeat' (first | (with_reducible exact Below.refl _ _) | (with_reducible refine below_drewN ?_ _) | (with_reducible refine Below.drew ?_) | (with_reducible refine Below.alloc ?_ ?_ _) | (with_reducible refine Below.setCell ?_ ?_ _) | (with_reducible refine Below.trans ?_ (Below.mono (by with_reducible assumption) ?_)) | omega | (simp only [World.size_alloc, World.size_setCell, World.size_drew, Go.Proofs.YthlpfedcmiiibaaDoor.World.size_drewN] at *; omega) | (with_reducible refine Below.size (B := 0) ?_)))⟩

theorem read_out {d : DS} {i : Int} (h : d.has i = false) : d.read i = (1, []) := by unfold DS.read; rw [h]; rfl
theorem read_in {d : DS} {i : Int} (h : d.has i = true) (ho : d.on = true) : d.read i = (0, d.blk i.toNat) := by unfold DS.read; rw [h, ho]; rfl
theorem rep_has (m : Nat) (i : Int) : (newD (List.replicate (64 * m) 0)).has i = (decide (0 ≤ i) && decide (i < (m : Int))) := by unfold DS.has; rw [rep_n]
theorem rep_read (m : Nat) (i : Int) (h0 : 0 ≤ i) (h1 : i < (m : Int)) : (newD (List.replicate (64 * m) 0)).read i = (0, fullB 0) := by
  rw [read_in (by rw [rep_has]; simp; omega) rfl, rep_blk m _ (by omega)]
theorem rep_none (m : Nat) (i : Int) (h1 : (m : Int) ≤ i) : (newD (List.replicate (64 * m) 0)).read i = (1, []) := by
  apply read_out; rw [rep_has]; simp; omega
theorem take_n (l : List UInt8) (q : Nat) (h : 64 * q ≤ l.length) : (newD (l.take (64 * q))).n = q := by unfold DS.n newD; simp; omega
theorem clamp_q (T : ByteArray) (hl : T.size ≤ 1024) : clampI ((T.size : Int) / 64) 4096 = T.size / 64 := by unfold clampI; omega

set_option maxHeartbeats 3200000 in
set_option maxRecDepth 100000 in
theorem sizes_neg (s : Nat → Addr) (n : Int) (h0 : -9223372036854775808 ≤ n) (hn : n < 0) (T : ByteArray) (w : World) (hs : Sent s w) (hT : T.size ≤ 9223372036854775807) (hl : T.size ≤ 1024) :
    Calls Tryd.prog 5 #[.int .i64 n, .string T] w fun e w' => e = .returned (.bool true) ∧ Below w.heap.size w w' := by
  go_enter Tryd.func5, Tryd.ntmps5
  go_wp2_with fail
  refine (awake_c s _ hs).mono ?_
  rintro e w1 ⟨rfl, hb1⟩
  have HS := Lib.hid (hs.below hb1 (Nat.le_refl _)); clear hs
  go_wp2_with fail
  refine (new_c n _ (by omega) (by omega)).mono ?_
  rintro e w2 ⟨p, g, cap, rfl, d2, b2, g2⟩
  rw [show clampI n 4096 = 0 by unfold clampI; omega] at d2
  have K2 : Hid (Carry w1 w2 p g cap (newD (List.replicate (64 * 0) 0))) := Lib.hid ⟨d2, b2, g2⟩
  clear d2 b2 g2
  go_wp2_with fail
  refine (len_c p g cap _ _ K2.out.disk).mono ?_
  rintro e w3 ⟨rfl, rfl⟩
  rw [rep_n]
  go_wp2_with fail
  refine (ison_c p g cap _ _ K2.out.disk).mono ?_
  rintro e w3 ⟨rfl, rfl⟩
  rw [show (newD (List.replicate (64 * 0) 0)).on = true from rfl]
  go_wp2_with fail
  have KK := K2; clear K2
  refine (read_c s p g cap _ 0 _ (KK.out.sent HS.out) KK.out.disk).mono ?_
  rintro e w8 ⟨rfl, nd, rfl⟩
  have K8 := Lib.hid (KK.out.draws nd); clear KK
  rw [rep_none _ _ (by omega)]
  go_wp2_with fail
  refine (of_c T _ hT).mono ?_
  rintro e w9 ⟨q, h, c, rfl, d9, b9, g9⟩
  rw [clamp_q T hl] at d9
  obtain ⟨k, hk⟩ : ∃ k, k = T.size / 64 := ⟨_, rfl⟩
  rw [← hk] at d9
  have hkI : (T.size : Int) / 64 = (k : Int) := by omega
  have hk64 : 64 * k ≤ T.size := by omega
  have K9 := Lib.hid (K8.out.on b9); clear K8 b9 g9
  have hq : (newD (T.data.toList.take (64 * k))).n = k := take_n _ _ (by rw [len_data]; omega)
  have HLEN : Hid (∀ W : World, DiskAt W q h c (newD (T.data.toList.take (64 * k))) → Calls Tryd.prog 23 #[.pointer (some ⟨q, 0, none⟩)] W fun e w' => e = .returned (.int .i64 (k : Int)) ∧ W = w') := Lib.hid fun W h => by
    have h2 := len_c _ _ _ _ W h
    rwa [hq] at h2
  have HCMP : Hid (((newD (T.data.toList.take (64 * k))).bs == (T.extract 0 ((k : Int) * 64).toNat).toList) = true) := Lib.hid (by
    rw [Lib.extract_toList, show ((k : Int) * 64).toNat - 0 = 64 * k by omega]; exact beq_self_eq_true _)
  have HSK : Hid (∀ W : World, Carry w1 W p g cap (newD (List.replicate (64 * 0) 0)) → Sent s W) := Lib.hid fun W h => h.sent HS.out
  have HBK : Hid (∀ W : World, Carry w1 W p g cap (newD (List.replicate (64 * 0) 0)) → Below w.heap.size w W) := Lib.hid fun W h => hb1.trans (h.below.mono hb1.size)
  clear hk hq
  have hT0 : (0 : Int) ≤ (k : Int) * 64 := by omega
  have hT1 : (k : Int) * 64 ≤ (T.size : Int) := by omega
  have hT2 : (k : Int) ≤ 16 := by omega
  have hwr : IntKind.i64.wrap ((k : Int) * 64) = (k : Int) * 64 := IntWalk.i64_in _ (by omega)
  have HK := Lib.hid hkI; clear hkI
  go_wp2_with fail
  simp only [HK.out]
  go_region_held3 (fun _ => True)
    (trivial)
    (first
      | (go_at_call 11; (refine (kind_errV s 1 _ (HSK.out _ (by (repeat' (first | (with_reducible assumption) | (with_reducible exact Hid.out (by with_reducible assumption)) | (with_reducible refine Carry.drewN ?_ _) | (with_reducible refine Carry.drew ?_))))) (by omega)).mono ?_); rintro e w10 ⟨rfl, b10⟩; have d10 : DiskAt w10 q h c (newD (T.data.toList.take (64 * k))) := DiskAt.on b10 (by (repeat' (first | (with_reducible assumption) | (with_reducible exact Hid.out (by with_reducible assumption)) | (with_reducible refine DiskAt.drewN ?_ _) | (with_reducible refine DiskAt.drew ?_) | (with_reducible refine DiskAt.alloc ?_ _)))); have k10 : Carry w1 w10 p g cap (newD (List.replicate (64 * 0) 0)) := Carry.on (by (repeat' (first | (with_reducible assumption) | (with_reducible exact Hid.out (by with_reducible assumption)) | (with_reducible refine Carry.drewN ?_ _) | (with_reducible refine Carry.drew ?_)))) b10; clear b10)
      | (go_at_call 23; (refine (HLEN.out _ (by (repeat' (first | (with_reducible assumption) | (with_reducible exact Hid.out (by with_reducible assumption)) | (with_reducible refine DiskAt.drewN ?_ _) | (with_reducible refine DiskAt.drew ?_) | (with_reducible refine DiskAt.alloc ?_ _))))).mono ?_); rintro e w11 ⟨rfl, rfl⟩)
      | (go_at_call 21; (refine (image_c q h c _ _ (by (repeat' (first | (with_reducible assumption) | (with_reducible exact Hid.out (by with_reducible assumption)) | (with_reducible refine DiskAt.drewN ?_ _) | (with_reducible refine DiskAt.drew ?_) | (with_reducible refine DiskAt.alloc ?_ _))))).mono ?_); rintro e w11 ⟨rfl, rfl⟩))
  all_goals go_wp2_with fail
  all_goals go_ret
  all_goals refine ⟨?_, HBK.out _ (by (repeat' (first | (with_reducible assumption) | (with_reducible exact Hid.out (by with_reducible assumption)) | (with_reducible refine Carry.drewN ?_ _) | (with_reducible refine Carry.drew ?_))))⟩
  all_goals show Ending.returned (.bool ((newD (T.data.toList.take (64 * k))).bs == (T.extract 0 ((k : Int) * 64).toNat).toList)) = _
  all_goals rw [HCMP.out]
set_option maxHeartbeats 3200000 in
set_option maxRecDepth 100000 in
theorem sizes_zero (s : Nat → Addr)  (T : ByteArray) (w : World) (hs : Sent s w) (hT : T.size ≤ 9223372036854775807) (hl : T.size ≤ 1024) :
    Calls Tryd.prog 5 #[.int .i64 0, .string T] w fun e w' => e = .returned (.bool true) ∧ Below w.heap.size w w' := by
  go_enter Tryd.func5, Tryd.ntmps5
  go_wp2_with fail
  refine (awake_c s _ hs).mono ?_
  rintro e w1 ⟨rfl, hb1⟩
  have HS := Lib.hid (hs.below hb1 (Nat.le_refl _)); clear hs
  go_wp2_with fail
  refine (new_c 0 _ (by omega) (by omega)).mono ?_
  rintro e w2 ⟨p, g, cap, rfl, d2, b2, g2⟩
  rw [show clampI 0 4096 = 0 by unfold clampI; omega] at d2
  have K2 : Hid (Carry w1 w2 p g cap (newD (List.replicate (64 * 0) 0))) := Lib.hid ⟨d2, b2, g2⟩
  clear d2 b2 g2
  go_wp2_with fail
  refine (len_c p g cap _ _ K2.out.disk).mono ?_
  rintro e w3 ⟨rfl, rfl⟩
  rw [rep_n]
  go_wp2_with fail
  refine (ison_c p g cap _ _ K2.out.disk).mono ?_
  rintro e w3 ⟨rfl, rfl⟩
  rw [show (newD (List.replicate (64 * 0) 0)).on = true from rfl]
  go_wp2_with fail
  have KK := K2; clear K2
  refine (read_c s p g cap _ 0 _ (KK.out.sent HS.out) KK.out.disk).mono ?_
  rintro e w8 ⟨rfl, nd, rfl⟩
  have K8 := Lib.hid (KK.out.draws nd); clear KK
  rw [rep_none _ _ (by omega)]
  go_wp2_with fail
  refine (of_c T _ hT).mono ?_
  rintro e w9 ⟨q, h, c, rfl, d9, b9, g9⟩
  rw [clamp_q T hl] at d9
  obtain ⟨k, hk⟩ : ∃ k, k = T.size / 64 := ⟨_, rfl⟩
  rw [← hk] at d9
  have hkI : (T.size : Int) / 64 = (k : Int) := by omega
  have hk64 : 64 * k ≤ T.size := by omega
  have K9 := Lib.hid (K8.out.on b9); clear K8 b9 g9
  have hq : (newD (T.data.toList.take (64 * k))).n = k := take_n _ _ (by rw [len_data]; omega)
  have HLEN : Hid (∀ W : World, DiskAt W q h c (newD (T.data.toList.take (64 * k))) → Calls Tryd.prog 23 #[.pointer (some ⟨q, 0, none⟩)] W fun e w' => e = .returned (.int .i64 (k : Int)) ∧ W = w') := Lib.hid fun W h => by
    have h2 := len_c _ _ _ _ W h
    rwa [hq] at h2
  have HCMP : Hid (((newD (T.data.toList.take (64 * k))).bs == (T.extract 0 ((k : Int) * 64).toNat).toList) = true) := Lib.hid (by
    rw [Lib.extract_toList, show ((k : Int) * 64).toNat - 0 = 64 * k by omega]; exact beq_self_eq_true _)
  have HSK : Hid (∀ W : World, Carry w1 W p g cap (newD (List.replicate (64 * 0) 0)) → Sent s W) := Lib.hid fun W h => h.sent HS.out
  have HBK : Hid (∀ W : World, Carry w1 W p g cap (newD (List.replicate (64 * 0) 0)) → Below w.heap.size w W) := Lib.hid fun W h => hb1.trans (h.below.mono hb1.size)
  clear hk hq
  have hT0 : (0 : Int) ≤ (k : Int) * 64 := by omega
  have hT1 : (k : Int) * 64 ≤ (T.size : Int) := by omega
  have hT2 : (k : Int) ≤ 16 := by omega
  have hwr : IntKind.i64.wrap ((k : Int) * 64) = (k : Int) * 64 := IntWalk.i64_in _ (by omega)
  have HK := Lib.hid hkI; clear hkI
  go_wp2_with fail
  simp only [HK.out]
  go_region_held3 (fun _ => True)
    (trivial)
    (first
      | (go_at_call 11; (refine (kind_errV s 1 _ (HSK.out _ (by (repeat' (first | (with_reducible assumption) | (with_reducible exact Hid.out (by with_reducible assumption)) | (with_reducible refine Carry.drewN ?_ _) | (with_reducible refine Carry.drew ?_))))) (by omega)).mono ?_); rintro e w10 ⟨rfl, b10⟩; have d10 : DiskAt w10 q h c (newD (T.data.toList.take (64 * k))) := DiskAt.on b10 (by (repeat' (first | (with_reducible assumption) | (with_reducible exact Hid.out (by with_reducible assumption)) | (with_reducible refine DiskAt.drewN ?_ _) | (with_reducible refine DiskAt.drew ?_) | (with_reducible refine DiskAt.alloc ?_ _)))); have k10 : Carry w1 w10 p g cap (newD (List.replicate (64 * 0) 0)) := Carry.on (by (repeat' (first | (with_reducible assumption) | (with_reducible exact Hid.out (by with_reducible assumption)) | (with_reducible refine Carry.drewN ?_ _) | (with_reducible refine Carry.drew ?_)))) b10; clear b10)
      | (go_at_call 23; (refine (HLEN.out _ (by (repeat' (first | (with_reducible assumption) | (with_reducible exact Hid.out (by with_reducible assumption)) | (with_reducible refine DiskAt.drewN ?_ _) | (with_reducible refine DiskAt.drew ?_) | (with_reducible refine DiskAt.alloc ?_ _))))).mono ?_); rintro e w11 ⟨rfl, rfl⟩)
      | (go_at_call 21; (refine (image_c q h c _ _ (by (repeat' (first | (with_reducible assumption) | (with_reducible exact Hid.out (by with_reducible assumption)) | (with_reducible refine DiskAt.drewN ?_ _) | (with_reducible refine DiskAt.drew ?_) | (with_reducible refine DiskAt.alloc ?_ _))))).mono ?_); rintro e w11 ⟨rfl, rfl⟩))
  all_goals go_wp2_with fail
  all_goals go_ret
  all_goals refine ⟨?_, HBK.out _ (by (repeat' (first | (with_reducible assumption) | (with_reducible exact Hid.out (by with_reducible assumption)) | (with_reducible refine Carry.drewN ?_ _) | (with_reducible refine Carry.drew ?_))))⟩
  all_goals show Ending.returned (.bool ((newD (T.data.toList.take (64 * k))).bs == (T.extract 0 ((k : Int) * 64).toNat).toList)) = _
  all_goals rw [HCMP.out]
set_option maxHeartbeats 3200000 in
set_option maxRecDepth 100000 in
theorem sizes_mid (s : Nat → Addr) (m : Nat) (h0 : 0 < m) (h1 : m ≤ 4096) (T : ByteArray) (w : World) (hs : Sent s w) (hT : T.size ≤ 9223372036854775807) (hl : T.size ≤ 1024) :
    Calls Tryd.prog 5 #[.int .i64 (m : Int), .string T] w fun e w' => e = .returned (.bool true) ∧ Below w.heap.size w w' := by
  go_enter Tryd.func5, Tryd.ntmps5
  go_wp2_with fail
  refine (awake_c s _ hs).mono ?_
  rintro e w1 ⟨rfl, hb1⟩
  have HS := Lib.hid (hs.below hb1 (Nat.le_refl _)); clear hs
  go_wp2_with fail
  refine (new_c (m : Int) _ (by omega) (by omega)).mono ?_
  rintro e w2 ⟨p, g, cap, rfl, d2, b2, g2⟩
  rw [show clampI (m : Int) 4096 = m by unfold clampI; omega] at d2
  have K2 : Hid (Carry w1 w2 p g cap (newD (List.replicate (64 * m) 0))) := Lib.hid ⟨d2, b2, g2⟩
  clear d2 b2 g2
  have hm0 : (0 : Int) < (m : Int) := by omega
  have hm1 : (m : Int) ≤ 4096 := by omega
  go_wp2_with fail
  refine (len_c p g cap _ _ K2.out.disk).mono ?_
  rintro e w3 ⟨rfl, rfl⟩
  rw [rep_n]
  go_wp2_with fail
  refine (ison_c p g cap _ _ K2.out.disk).mono ?_
  rintro e w3 ⟨rfl, rfl⟩
  rw [show (newD (List.replicate (64 * m) 0)).on = true from rfl]
  go_wp2_with fail
  refine (read_c s p g cap _ ((m : Int) - 1) _ (K2.out.sent HS.out) K2.out.disk).mono ?_
  rintro e w4 ⟨rfl, nd, rfl⟩
  have K4 := Lib.hid (K2.out.draws nd); clear K2
  rw [rep_read _ _ (by omega) (by omega)]
  simp only [errV_zero]
  go_wp2_with fail
  refine (full_c 0 _).mono ?_
  rintro e w5 ⟨rfl, b5⟩
  have KK := Lib.hid (K4.out.on b5); clear K4 b5
  go_wp2_with fail
  refine (read_c s p g cap _ (m : Int) _ (KK.out.sent HS.out) KK.out.disk).mono ?_
  rintro e w8 ⟨rfl, nd, rfl⟩
  have K8 := Lib.hid (KK.out.draws nd); clear KK
  rw [rep_none _ _ (by omega)]
  go_wp2_with fail
  refine (of_c T _ hT).mono ?_
  rintro e w9 ⟨q, h, c, rfl, d9, b9, g9⟩
  rw [clamp_q T hl] at d9
  obtain ⟨k, hk⟩ : ∃ k, k = T.size / 64 := ⟨_, rfl⟩
  rw [← hk] at d9
  have hkI : (T.size : Int) / 64 = (k : Int) := by omega
  have hk64 : 64 * k ≤ T.size := by omega
  have K9 := Lib.hid (K8.out.on b9); clear K8 b9 g9
  have hq : (newD (T.data.toList.take (64 * k))).n = k := take_n _ _ (by rw [len_data]; omega)
  have HLEN : Hid (∀ W : World, DiskAt W q h c (newD (T.data.toList.take (64 * k))) → Calls Tryd.prog 23 #[.pointer (some ⟨q, 0, none⟩)] W fun e w' => e = .returned (.int .i64 (k : Int)) ∧ W = w') := Lib.hid fun W h => by
    have h2 := len_c _ _ _ _ W h
    rwa [hq] at h2
  have HCMP : Hid (((newD (T.data.toList.take (64 * k))).bs == (T.extract 0 ((k : Int) * 64).toNat).toList) = true) := Lib.hid (by
    rw [Lib.extract_toList, show ((k : Int) * 64).toNat - 0 = 64 * k by omega]; exact beq_self_eq_true _)
  have HSK : Hid (∀ W : World, Carry w1 W p g cap (newD (List.replicate (64 * m) 0)) → Sent s W) := Lib.hid fun W h => h.sent HS.out
  have HBK : Hid (∀ W : World, Carry w1 W p g cap (newD (List.replicate (64 * m) 0)) → Below w.heap.size w W) := Lib.hid fun W h => hb1.trans (h.below.mono hb1.size)
  clear hk hq
  have hT0 : (0 : Int) ≤ (k : Int) * 64 := by omega
  have hT1 : (k : Int) * 64 ≤ (T.size : Int) := by omega
  have hT2 : (k : Int) ≤ 16 := by omega
  have hwr : IntKind.i64.wrap ((k : Int) * 64) = (k : Int) * 64 := IntWalk.i64_in _ (by omega)
  have HK := Lib.hid hkI; clear hkI
  go_wp2_with fail
  simp only [HK.out]
  go_region_held3 (fun _ => True)
    (trivial)
    (first
      | (go_at_call 11; (refine (kind_errV s 1 _ (HSK.out _ (by (repeat' (first | (with_reducible assumption) | (with_reducible exact Hid.out (by with_reducible assumption)) | (with_reducible refine Carry.drewN ?_ _) | (with_reducible refine Carry.drew ?_))))) (by omega)).mono ?_); rintro e w10 ⟨rfl, b10⟩; have d10 : DiskAt w10 q h c (newD (T.data.toList.take (64 * k))) := DiskAt.on b10 (by (repeat' (first | (with_reducible assumption) | (with_reducible exact Hid.out (by with_reducible assumption)) | (with_reducible refine DiskAt.drewN ?_ _) | (with_reducible refine DiskAt.drew ?_) | (with_reducible refine DiskAt.alloc ?_ _)))); have k10 : Carry w1 w10 p g cap (newD (List.replicate (64 * m) 0)) := Carry.on (by (repeat' (first | (with_reducible assumption) | (with_reducible exact Hid.out (by with_reducible assumption)) | (with_reducible refine Carry.drewN ?_ _) | (with_reducible refine Carry.drew ?_)))) b10; clear b10)
      | (go_at_call 23; (refine (HLEN.out _ (by (repeat' (first | (with_reducible assumption) | (with_reducible exact Hid.out (by with_reducible assumption)) | (with_reducible refine DiskAt.drewN ?_ _) | (with_reducible refine DiskAt.drew ?_) | (with_reducible refine DiskAt.alloc ?_ _))))).mono ?_); rintro e w11 ⟨rfl, rfl⟩)
      | (go_at_call 21; (refine (image_c q h c _ _ (by (repeat' (first | (with_reducible assumption) | (with_reducible exact Hid.out (by with_reducible assumption)) | (with_reducible refine DiskAt.drewN ?_ _) | (with_reducible refine DiskAt.drew ?_) | (with_reducible refine DiskAt.alloc ?_ _))))).mono ?_); rintro e w11 ⟨rfl, rfl⟩))
  all_goals go_wp2_with fail
  all_goals go_ret
  all_goals refine ⟨?_, HBK.out _ (by (repeat' (first | (with_reducible assumption) | (with_reducible exact Hid.out (by with_reducible assumption)) | (with_reducible refine Carry.drewN ?_ _) | (with_reducible refine Carry.drew ?_))))⟩
  all_goals show Ending.returned (.bool ((newD (T.data.toList.take (64 * k))).bs == (T.extract 0 ((k : Int) * 64).toNat).toList)) = _
  all_goals rw [HCMP.out]
set_option maxHeartbeats 3200000 in
set_option maxRecDepth 100000 in
theorem sizes_high (s : Nat → Addr) (n : Int) (h0 : 4096 < n) (h1 : n ≤ 9223372036854775807) (T : ByteArray) (w : World) (hs : Sent s w) (hT : T.size ≤ 9223372036854775807) (hl : T.size ≤ 1024) :
    Calls Tryd.prog 5 #[.int .i64 n, .string T] w fun e w' => e = .returned (.bool true) ∧ Below w.heap.size w w' := by
  go_enter Tryd.func5, Tryd.ntmps5
  go_wp2_with fail
  refine (awake_c s _ hs).mono ?_
  rintro e w1 ⟨rfl, hb1⟩
  have HS := Lib.hid (hs.below hb1 (Nat.le_refl _)); clear hs
  go_wp2_with fail
  refine (new_c n _ (by omega) (by omega)).mono ?_
  rintro e w2 ⟨p, g, cap, rfl, d2, b2, g2⟩
  rw [show clampI n 4096 = 4096 by unfold clampI; omega] at d2
  have K2 : Hid (Carry w1 w2 p g cap (newD (List.replicate (64 * 4096) 0))) := Lib.hid ⟨d2, b2, g2⟩
  clear d2 b2 g2
  go_wp2_with fail
  refine (len_c p g cap _ _ K2.out.disk).mono ?_
  rintro e w3 ⟨rfl, rfl⟩
  rw [rep_n]
  go_wp2_with fail
  refine (ison_c p g cap _ _ K2.out.disk).mono ?_
  rintro e w3 ⟨rfl, rfl⟩
  rw [show (newD (List.replicate (64 * 4096) 0)).on = true from rfl]
  go_wp2_with fail
  refine (read_c s p g cap _ 4095 _ (K2.out.sent HS.out) K2.out.disk).mono ?_
  rintro e w4 ⟨rfl, nd, rfl⟩
  have K4 := Lib.hid (K2.out.draws nd); clear K2
  rw [rep_read _ _ (by omega) (by omega)]
  simp only [errV_zero]
  go_wp2_with fail
  refine (full_c 0 _).mono ?_
  rintro e w5 ⟨rfl, b5⟩
  have KK := Lib.hid (K4.out.on b5); clear K4 b5
  go_wp2_with fail
  refine (read_c s p g cap _ 4096 _ (KK.out.sent HS.out) KK.out.disk).mono ?_
  rintro e w8 ⟨rfl, nd, rfl⟩
  have K8 := Lib.hid (KK.out.draws nd); clear KK
  rw [rep_none _ _ (by omega)]
  go_wp2_with fail
  refine (of_c T _ hT).mono ?_
  rintro e w9 ⟨q, h, c, rfl, d9, b9, g9⟩
  rw [clamp_q T hl] at d9
  obtain ⟨k, hk⟩ : ∃ k, k = T.size / 64 := ⟨_, rfl⟩
  rw [← hk] at d9
  have hkI : (T.size : Int) / 64 = (k : Int) := by omega
  have hk64 : 64 * k ≤ T.size := by omega
  have K9 := Lib.hid (K8.out.on b9); clear K8 b9 g9
  have hq : (newD (T.data.toList.take (64 * k))).n = k := take_n _ _ (by rw [len_data]; omega)
  have HLEN : Hid (∀ W : World, DiskAt W q h c (newD (T.data.toList.take (64 * k))) → Calls Tryd.prog 23 #[.pointer (some ⟨q, 0, none⟩)] W fun e w' => e = .returned (.int .i64 (k : Int)) ∧ W = w') := Lib.hid fun W h => by
    have h2 := len_c _ _ _ _ W h
    rwa [hq] at h2
  have HCMP : Hid (((newD (T.data.toList.take (64 * k))).bs == (T.extract 0 ((k : Int) * 64).toNat).toList) = true) := Lib.hid (by
    rw [Lib.extract_toList, show ((k : Int) * 64).toNat - 0 = 64 * k by omega]; exact beq_self_eq_true _)
  have HSK : Hid (∀ W : World, Carry w1 W p g cap (newD (List.replicate (64 * 4096) 0)) → Sent s W) := Lib.hid fun W h => h.sent HS.out
  have HBK : Hid (∀ W : World, Carry w1 W p g cap (newD (List.replicate (64 * 4096) 0)) → Below w.heap.size w W) := Lib.hid fun W h => hb1.trans (h.below.mono hb1.size)
  clear hk hq
  have hT0 : (0 : Int) ≤ (k : Int) * 64 := by omega
  have hT1 : (k : Int) * 64 ≤ (T.size : Int) := by omega
  have hT2 : (k : Int) ≤ 16 := by omega
  have hwr : IntKind.i64.wrap ((k : Int) * 64) = (k : Int) * 64 := IntWalk.i64_in _ (by omega)
  have HK := Lib.hid hkI; clear hkI
  go_wp2_with fail
  simp only [HK.out]
  go_region_held3 (fun _ => True)
    (trivial)
    (first
      | (go_at_call 11; (refine (kind_errV s 1 _ (HSK.out _ (by (repeat' (first | (with_reducible assumption) | (with_reducible exact Hid.out (by with_reducible assumption)) | (with_reducible refine Carry.drewN ?_ _) | (with_reducible refine Carry.drew ?_))))) (by omega)).mono ?_); rintro e w10 ⟨rfl, b10⟩; have d10 : DiskAt w10 q h c (newD (T.data.toList.take (64 * k))) := DiskAt.on b10 (by (repeat' (first | (with_reducible assumption) | (with_reducible exact Hid.out (by with_reducible assumption)) | (with_reducible refine DiskAt.drewN ?_ _) | (with_reducible refine DiskAt.drew ?_) | (with_reducible refine DiskAt.alloc ?_ _)))); have k10 : Carry w1 w10 p g cap (newD (List.replicate (64 * 4096) 0)) := Carry.on (by (repeat' (first | (with_reducible assumption) | (with_reducible exact Hid.out (by with_reducible assumption)) | (with_reducible refine Carry.drewN ?_ _) | (with_reducible refine Carry.drew ?_)))) b10; clear b10)
      | (go_at_call 23; (refine (HLEN.out _ (by (repeat' (first | (with_reducible assumption) | (with_reducible exact Hid.out (by with_reducible assumption)) | (with_reducible refine DiskAt.drewN ?_ _) | (with_reducible refine DiskAt.drew ?_) | (with_reducible refine DiskAt.alloc ?_ _))))).mono ?_); rintro e w11 ⟨rfl, rfl⟩)
      | (go_at_call 21; (refine (image_c q h c _ _ (by (repeat' (first | (with_reducible assumption) | (with_reducible exact Hid.out (by with_reducible assumption)) | (with_reducible refine DiskAt.drewN ?_ _) | (with_reducible refine DiskAt.drew ?_) | (with_reducible refine DiskAt.alloc ?_ _))))).mono ?_); rintro e w11 ⟨rfl, rfl⟩))
  all_goals go_wp2_with fail
  all_goals go_ret
  all_goals refine ⟨?_, HBK.out _ (by (repeat' (first | (with_reducible assumption) | (with_reducible exact Hid.out (by with_reducible assumption)) | (with_reducible refine Carry.drewN ?_ _) | (with_reducible refine Carry.drew ?_))))⟩
  all_goals show Ending.returned (.bool ((newD (T.data.toList.take (64 * k))).bs == (T.extract 0 ((k : Int) * 64).toNat).toList)) = _
  all_goals rw [HCMP.out]

theorem sizes_any (s : Nat → Addr) (n : Int) (T : ByteArray) (w : World) (hs : Sent s w) (hT : T.size ≤ 9223372036854775807) (h0 : -9223372036854775808 ≤ n) (h1 : n ≤ 9223372036854775807) :
    Calls Tryd.prog 5 #[.int .i64 n, .string T] w fun e w' => e = .returned (.bool true) ∧ Below w.heap.size w w' := by
  by_cases hl : T.size ≤ 1024
  · by_cases hn : n < 0
    · exact sizes_neg s n h0 hn T w hs hT hl
    · by_cases hz : n = 0
      · subst hz; exact sizes_zero s T w hs hT hl
      · by_cases hh : 4096 < n
        · exact sizes_high s n hh h1 T w hs hT hl
        · obtain ⟨m, rfl⟩ := Int.eq_ofNat_of_zero_le (show 0 ≤ n by omega)
          exact sizes_mid s m (by omega) (by omega) T w hs hT hl
  · exact sizes_long s n T w hs hT (by omega)
end Go.Proofs.YthlpfedcmiiibaaDoor
