/- The law package's awake: it returns true. Condition: the sentinels lie as the program's text lays them. -/
import Derived.Test.YthlpfedcmiiibaaDoorBlkL
namespace Go.Proofs.YthlpfedcmiiibaaDoor
open Go Go.RowKit

def A0 : DS := newD (List.replicate (64 * clampI 2 4096) 0)
def A1 : DS := (A0.write 1 (fullB 97)).2
def A2 : DS := A1.setFuse 0 3
def A3 : DS := (A2.write 1 (fullB 98)).2
def A4 : DS := A3.come
theorem a1_ok : (A0.write 1 (fullB 97)).1 = 0 := by kernel_rfl
theorem a3_ok : (A2.write 1 (fullB 98)).1 = 14 := by kernel_rfl
theorem a3_off : A3.on = false := by kernel_rfl
def aText : List UInt8 := [98, 98, 98] ++ List.replicate 61 97
theorem a4_read : A4.read 1 = (0, aText) := by kernel_rfl
theorem a4_n : A4.n = 2 := by kernel_rfl
theorem a4_wr : A4.wr = 1 := by kernel_rfl
theorem errV_zero (s : Nat → Addr) : errV s 0 = .nilIface := rfl

/-- What the walk carries: the disk, and that nothing old has turned. -/
structure Carry (w wk : World) (p g cap : Nat) (d : DS) : Prop where
  disk : DiskAt wk p g cap d
  below : Below w.heap.size w wk
  low : w.heap.size ≤ g
theorem Carry.on {w wk w' : World} {p g cap : Nat} {d : DS} (h : Carry w wk p g cap d) (hb : Below wk.heap.size wk w') : Carry w w' p g cap d :=
  ⟨h.disk.below hb h.disk.lt.1, h.below.trans (hb.mono h.below.size), h.low⟩
theorem Carry.draws {w wk : World} {p g cap : Nat} {d : DS} (h : Carry w wk p g cap d) (n : Nat) : Carry w (wk.drewN n) p g cap d := ⟨h.disk.drewN n, below_drewN h.below n, h.low⟩
theorem Carry.drewN {w wk : World} {p g cap : Nat} {d : DS} (h : Carry w wk p g cap d) (n : Nat) : Carry w (wk.drewN n) p g cap d := h.draws n
theorem Carry.drew {w wk : World} {p g cap : Nat} {d : DS} (h : Carry w wk p g cap d) : Carry w wk.drew p g cap d := ⟨h.disk.drew, h.below.drew, h.low⟩
theorem DiskAt.on {w w' : World} {p g cap : Nat} {d : DS} (hb : Below w.heap.size w w') (h : DiskAt w p g cap d) : DiskAt w' p g cap d := h.below hb h.lt.1
theorem Carry.step {w wk w' : World} {p g cap : Nat} {d d' : DS} (h : Carry w wk p g cap d) (hd : DiskAt w' p g cap d') (hc : Chg p g wk w') : Carry w w' p g cap d' :=
  ⟨hd, h.below.trans (hc.below (by have := h.disk.lt; have := h.low; omega) h.low h.below.size), h.low⟩
theorem Carry.sent {s : Nat → Addr} {w wk : World} {p g cap : Nat} {d : DS} (h : Carry w wk p g cap d) (hs : Sent s w) : Sent s wk := hs.below h.below (Nat.le_refl _)

set_option maxHeartbeats 3200000 in
set_option maxRecDepth 100000 in
theorem awake_c (s : Nat → Addr) (w : World) (hs : Sent s w) :
    Calls Tryd.prog 7 #[] w fun e w' => e = .returned (.bool true) ∧ Below w.heap.size w w' := by
  have HS := Lib.hid hs; clear hs
  go_enter Tryd.func7, Tryd.ntmps7
  go_wp2_with fail
  refine (new_c 2 _ (by omega) (by omega)).mono ?_
  rintro e w1 ⟨p, g, cap, rfl, d1, b1, g1⟩
  have K1 : Hid (Carry w w1 p g cap A0) := Lib.hid ⟨d1, b1, g1⟩
  clear d1 b1 g1
  go_wp2_with fail
  refine (full_c 97 _).mono ?_
  rintro e w2 ⟨rfl, b2⟩
  have K2 := Lib.hid (K1.out.on b2); clear K1 b2
  go_wp2_with fail
  refine (write_c s p g cap A0 1 _ _ (K2.out.sent HS.out) K2.out.disk (by decide) (by decide)).mono ?_
  rintro e w3 ⟨rfl, d3, c3⟩
  have K3 : Hid (Carry w w3 p g cap A1) := Lib.hid (K2.out.step d3 c3); clear K2 d3 c3
  rw [show (A0.write 1 (strB (fullB 97)).data.toList).1 = 0 from a1_ok, errV_zero]
  go_wp2_with fail
  refine (fuse_c p g cap A1 0 3 _ K3.out.disk (by omega) (by omega) (by omega) (by omega)).mono ?_
  rintro e w4 ⟨rfl, d4, c4⟩
  have K4 : Hid (Carry w w4 p g cap A2) := Lib.hid (K3.out.step d4 c4); clear K3 d4 c4
  go_wp2_with fail
  refine (full_c 98 _).mono ?_
  rintro e w5 ⟨rfl, b5⟩
  have K5 := Lib.hid (K4.out.on b5); clear K4 b5
  go_wp2_with fail
  refine (write_c s p g cap A2 1 _ _ (K5.out.sent HS.out) K5.out.disk (by decide) (by decide)).mono ?_
  rintro e w6 ⟨rfl, d6, c6⟩
  have K6 : Hid (Carry w w6 p g cap A3) := Lib.hid (K5.out.step d6 c6); clear K5 d6 c6
  rw [show (A2.write 1 (strB (fullB 98)).data.toList).1 = 14 from a3_ok]
  go_wp2_with fail
  refine (ison_c p g cap A3 _ K6.out.disk).mono ?_
  rintro e w7 ⟨rfl, rfl⟩
  rw [a3_off]
  go_wp2_with fail
  refine (come_c p g cap A3 _ K6.out.disk).mono ?_
  rintro e w8 ⟨rfl, d8, c8⟩
  have K8 : Hid (Carry w w8 p g cap A4) := Lib.hid (K6.out.step d8 c8); clear K6 d8 c8
  go_wp2_with fail
  refine (read_c s p g cap A4 1 _ (K8.out.sent HS.out) K8.out.disk).mono ?_
  rintro e w9 ⟨rfl, nd, rfl⟩
  have K9 := Lib.hid (K8.out.draws nd); clear K8
  rw [a4_read]
  simp only [errV_zero]
  go_wp2_with fail
  refine (kind_errV s 14 _ (K9.out.sent HS.out) (by omega)).mono ?_
  rintro e w10 ⟨rfl, b10⟩
  have K10 := Lib.hid (K9.out.on b10); clear K9 b10
  go_wp2_with fail
  refine (full_c 97 _).mono ?_
  rintro e w11 ⟨rfl, b11⟩
  have K11 := Lib.hid (K10.out.on b11); clear K10 b11
  go_wp2_with fail
  refine (len_c p g cap A4 _ K11.out.disk).mono ?_
  rintro e w12 ⟨rfl, rfl⟩
  rw [a4_n]
  go_wp2_with fail
  refine (writes_c p g cap A4 _ K11.out.disk).mono ?_
  rintro e w12 ⟨rfl, rfl⟩
  rw [a4_wr]
  go_wp2_with fail
  go_ret
  exact ⟨rfl, K11.out.below⟩
  rename_i h
  exact absurd (by kernel_rfl) h
end Go.Proofs.YthlpfedcmiiibaaDoor
