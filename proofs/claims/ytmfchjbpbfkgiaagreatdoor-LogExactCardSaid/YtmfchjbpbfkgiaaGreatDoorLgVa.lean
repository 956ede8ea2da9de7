/- The document's examples of logs stand. Conditions: the sentinels lie as the program's text lays them. -/
import Derived.Test.YtmfchjbpbfkgiaaGreatDoorLgV
import Derived.Test.YtmfchjbpbfkgiaaGreatDoorOwn6
namespace Go.Proofs.YtmfchjbpbfkgiaaGreatDoor
open Go Go.RowKit

theorem hello_size : (⟨#[104, 101, 108, 108, 111]⟩ : ByteArray).size = 5 := rfl

set_option maxHeartbeats 3200000 in
set_option maxRecDepth 100000 in
/-- The examples of the document stand. -/
theorem awake_c (s : Nat → Addr) (w : World) (hs : Sent s w) :
    Calls Tryz.prog 6 #[] w fun e w' => e = .returned (.bool true) ∧ Below w.heap.size w w' := by
  obtain ⟨T, hT⟩ : ∃ T : ByteArray, T = ⟨#[104, 101, 108, 108, 111]⟩ := ⟨_, rfl⟩
  have hTs : T.size = 5 := by rw [hT]; rfl
  go_enter Tryz.func6, Tryz.ntmps6
  go_wp2_with fail
  refine (fresh_c 5 5 _ rfl (by omega)).mono ?_
  rintro e w1 ⟨p, g, cap, d, rfl, hd, b1, hg⟩
  have hop := live_open s w p g cap d 1 3 10 0 [] 1 4 10 w1 hs b1 hd.at_ hg rfl rfl rfl (by omega) (by have := hd.n_; omega) (by omega) hd.on hd.fuse (by have := hd.wr; omega) (by omega) (fresh_follows hd (by omega) (by omega))
  have HOP := Lib.hid hop
  have B1 := Lib.hid b1
  have hdn := hd.n_
  clear hop hd b1
  go_wp2_with fail
  refine (HOP.out).mono ?_
  rintro e w2 ⟨q, v, d2, rfl, hl2, hc2, hq2, hv2, hn2, _, hb2⟩
  have had := live_add s w q p g cap 1 3 10 3 v [] d2 T w2 hs hb2 hl2 (by omega) (by rw [hTs]; decide) (by simp) (by omega)
  rw [hT] at had
  have HAD := Lib.hid had
  have B2 := Lib.hid hb2
  clear had hl2 hc2 hb2 HOP hv2
  go_wp2_with fail
  refine (HAD.out).mono ?_
  rintro e w3 ⟨rfl, v3, d3, hl3, hc3, hv3, hn3, _, hb3⟩
  rw [List.nil_append] at hl3
  have hop := live_open s w p g cap d3 1 3 10 200 _ 1 4 10 w3 hs hb3 hl3.mem.disk (Nat.le_trans hl3.mem.lo (Nat.le_refl _)) rfl rfl rfl (by omega) (by omega) (by omega) hl3.on hl3.fuse (by have := hl3.wr; omega) (by omega) hl3.at_.follows
  have HOP := Lib.hid hop
  have HL3 := Lib.hid hl3
  clear hl3 hc3 hv3 HAD hop hb3
  go_wp2_with fail
  refine (HOP.out).mono ?_
  rintro e w4 ⟨q4, v4, d4, rfl, hl4, hc4, hq4, hv4, hn4, _, hb4⟩
  have hlt3 := HL3.out.mem.lt
  have hm3 := HL3.out.mem.other hc4 (by rintro (h | h) <;> omega) (fun k hk hS => by obtain ⟨h1, h2, h3⟩ := HL3.out.mem.apart k hk; rcases hS with h | h <;> contradiction) hl4.mem.disk hn4
  have hlay : (layR 10 [(⟨#[104, 101, 108, 108, 111]⟩ : ByteArray).data.toList]).length = 1 := by rw [layR, List.length_append, framesF_len]; rfl
  have HL4 := Lib.hid hl4; have HM3 := Lib.hid hm3; have HB4 := Lib.hid hb4; have HLAY := Lib.hid hlay
  clear hl4 hc4 hv4 hb4 hm3 HOP HL3 hlay
  go_wp2_with fail
  refine (records_c w.heap.size q4 p g cap d4 1 3 10 v4 _ false _ HL4.out.mem).mono ?_
  rintro e w5 ⟨⟨v5, rfl, o5⟩, b5⟩
  have HL5 := Lib.hid (HL4.out.below b5 (Nat.le_refl _))
  have HM5 := Lib.hid (HM3.out.below b5 (Nat.le_refl _))
  have HB5 : Hid (Below w.heap.size w w5) := Lib.hid (HB4.out.trans (b5.mono HB4.out.size))
  have HR5 := Lib.hid (own_reads o5)
  clear o5 b5 HL4 HM3 HB4
  go_wp2_with fail
  have b6 : Below w5.heap.size w5 (w5.alloc (.cells #[.string ⟨#[104, 101, 108, 108, 111]⟩] 9)) := (Below.refl _ _).alloc (Nat.le_refl _) _
  refine (same_c _ _ _ _ _ (HR5.out.below b6 (Nat.le_refl _)) (reads_one w5 ⟨#[104, 101, 108, 108, 111]⟩) (by simp) (by simp)).mono ?_
  rintro e w6 ⟨he, h6⟩
  rw [decide_eq_true rfl] at he
  subst he
  have HL6 := Lib.hid ((HL5.out.below b6 (Nat.le_refl _)).same h6)
  have HM6 := Lib.hid ((HM5.out.below b6 (Nat.le_refl _)).same h6)
  have HB6 : Hid (Below w.heap.size w w6) := Lib.hid ((HB5.out.trans (b6.mono HB5.out.size)).trans (h6.below _))
  clear b6 h6 HL5 HM5 HB5 HR5
  go_wp2_with fail
  refine (next_c _ q4 p g cap d4 1 3 10 v4 _ false _ HL6.out.mem).mono ?_
  rintro e w7 ⟨rfl, h7⟩
  have HL7 := Lib.hid (HL6.out.same h7)
  have HM7 := Lib.hid (HM6.out.same h7)
  have HB7 : Hid (Below w.heap.size w w7) := Lib.hid (HB6.out.trans (h7.below _))
  clear h7 HL6 HM6 HB6
  go_wp2_with fail
  have hr8 := room_c _ q4 p g cap d4 1 3 10 v4 _ false _ HL7.out.mem
  rw [HLAY.out] at hr8
  refine hr8.mono ?_
  rintro e w8 ⟨rfl, h8⟩
  have HM8 := Lib.hid (HM7.out.same h8)
  have HB8 : Hid (Below w.heap.size w w8) := Lib.hid (HB7.out.trans (h8.below _))
  clear h8 hr8 HL7 HM7 HB7
  go_wp2_with fail
  have hr9 := room_c _ q p g cap d4 1 3 10 v3 _ false _ HM8.out
  rw [HLAY.out] at hr9
  refine hr9.mono ?_
  rintro e w9 ⟨rfl, h9⟩
  have HB9 : Hid (Below w.heap.size w w9) := Lib.hid (HB8.out.trans (h9.below _))
  clear h9 hr9 HM8 HB8
  go_wp2_with fail
  go_ret
  exact ⟨rfl, HB9.out⟩
end Go.Proofs.YtmfchjbpbfkgiaaGreatDoor
