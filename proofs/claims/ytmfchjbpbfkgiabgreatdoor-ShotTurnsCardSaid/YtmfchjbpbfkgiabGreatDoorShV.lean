/- The document's examples of stores stand. Conditions: the sentinels lie as the program's text lays them. -/
import Derived.Test.YtmfchjbpbfkgiabGreatDoorShA
import Derived.Test.YtmfchjbpbfkgiabGreatDoorSme7
namespace Go.Proofs.YtmfchjbpbfkgiabGreatDoor
open Go Go.RowKit

theorem zeros_snap {z : Nat} (hz : 0 < z) : snapF (List.replicate z zeroF) = (0, []) := snapF_err (readF_zero (by rw [List.getElem?_replicate_of_lt hz]))
theorem fresh_tells {w : World} {p g cap n z : Nat} {d : DS} (h : FreshD w p g cap n d) (hz : 0 < z) (hn : 2 * z ≤ n) : Tells7 d z 0 0 [] := by
  unfold Tells7
  rw [h.rows 0 z (by omega), h.rows z z (by omega), zeros_snap hz]
  rfl
theorem lay_one (b : Nat) (x : List UInt8) : (layR b [x]).length = nblk x.length := by rw [layR, layR, List.append_nil, framesF_len]

set_option maxHeartbeats 3200000 in
set_option maxRecDepth 100000 in
/-- The examples of the document stand. -/
theorem awake7_c (s : Nat → Addr) (w : World) (hs : Sent s w) :
    Calls Tryz.prog 4 #[] w fun e w' => e = .returned (.bool true) ∧ Below w.heap.size w w' := by
  obtain ⟨X1, hX1⟩ : ∃ T : ByteArray, T = ⟨#[111, 110, 101]⟩ := ⟨_, rfl⟩
  obtain ⟨X2, hX2⟩ : ∃ T : ByteArray, T = ⟨#[116, 119, 111]⟩ := ⟨_, rfl⟩
  obtain ⟨X3, hX3⟩ : ∃ T : ByteArray, T = ⟨#[98, 111, 116, 104]⟩ := ⟨_, rfl⟩
  obtain ⟨X4, hX4⟩ : ∃ T : ByteArray, T = ⟨#[116, 104, 114, 101, 101]⟩ := ⟨_, rfl⟩
  have hs1 : X1.size = 3 := by rw [hX1]; rfl
  have hs2 : X2.size = 3 := by rw [hX2]; rfl
  have hs3 : X3.size = 4 := by rw [hX3]; rfl
  have hs4 : X4.size = 5 := by rw [hX4]; rfl
  obtain ⟨R1, hR1⟩ : ∃ R, X1.data.toList = R := ⟨_, rfl⟩
  obtain ⟨R2, hR2⟩ : ∃ R, X2.data.toList = R := ⟨_, rfl⟩
  obtain ⟨R4, hR4⟩ : ∃ R, X4.data.toList = R := ⟨_, rfl⟩
  have hl1 : R1.length = 3 := by rw [← hR1, size_len]; exact hs1
  have HR4 := Lib.hid hR4
  go_enter Tryz.func4, Tryz.ntmps4
  go_wp2_with fail
  refine (fresh_c 20 20 _ rfl (by omega)).mono ?_
  rintro e w1 ⟨p, g, cap, d, rfl, hd, b1, hg⟩
  have hdn := hd.n_
  have hop := lives_open s w p g cap d 3 14 0 0 0 [] [] 3 w1 hs b1 hd.at_ hg rfl (by omega) (by omega) (by omega) (by omega) hd.on hd.fuse (fresh_tells hd (by omega) (by omega)) (by omega) (by have := hd.wr; omega) (by omega) (fresh_follows hd (by omega) (by omega))
  have HOP := Lib.hid hop
  clear hop hd b1
  go_wp2_with fail
  refine (HOP.out).mono ?_
  rintro e w2 ⟨u, q, v, d2, rfl, hl2, hc2, hu2, hv2, hn2, _, hb2⟩
  have had := lives_add s w u q p g cap 3 14 0 0 14 (bst []) X1 v [] d2 w2 hs hb2 hl2 (by omega) (by rw [hs1]; decide) (by simp) (by omega)
  rw [hR1, hX1] at had
  have HAD := Lib.hid had
  clear had hl2 hc2 hb2 HOP hv2
  go_wp2_with fail
  refine (HAD.out).mono ?_
  rintro e w3 ⟨rfl, v3, d3, hl3, hc3, hv3, hn3, _, hb3⟩
  rw [List.nil_append] at hl3
  have had := lives_add s w u q p g cap 3 14 0 0 122 (bst []) X2 v3 [R1] d3 w3 hs hb3 hl3 (by omega) (by rw [lay_one, hl1, hs2]; decide) (by simp) (by omega)
  rw [hR2, hX2] at had
  have HAD := Lib.hid had
  clear had hl3 hc3 hb3 hv3
  go_wp2_with fail
  refine (HAD.out).mono ?_
  rintro e w4 ⟨rfl, v4, d4, hl4, hc4, hv4, hn4, _, hb4⟩
  have hke := lives_keep s w u q p g cap 3 14 0 0 230 (bst []) X3 v4 _ d4 w4 hs hb4 hl4 (by omega) (by rw [hs3]; decide) (by simp) (by omega)
  rw [hX3] at hke
  have HKE := Lib.hid hke
  clear hke hl4 hc4 hb4 hv4 HAD
  go_wp2_with fail
  refine (HKE.out).mono ?_
  rintro e w5 ⟨rfl, d5, hl5, hc5, hn5, _, _, hb5⟩
  rw [← hX3] at hl5
  have had := lives_add s w u q p g cap 3 14 3 3 250 X3 X4 (.slice none 0 0) [] d5 w5 hs hb5 hl5 (by omega) (by rw [hs4]; decide) (by simp) (by omega)
  rw [hR4, hX4] at had
  have HAD := Lib.hid had
  clear had hl5 hc5 hb5 HKE
  go_wp2_with fail
  refine (HAD.out).mono ?_
  rintro e w6 ⟨rfl, v6, d6, hl6, hc6, hv6, hn6, _, hb6⟩
  rw [List.nil_append] at hl6
  have hop := lives_open s w p g cap d6 3 14 3 3 358 X3.data.toList [R4] 3 w6 hs hb6 hl6.mem.log.disk hl6.mem.log.lo rfl (by omega) (by omega) (by omega) hl6.full hl6.on hl6.fuse hl6.sel (by omega) hl6.wr (by omega) hl6.at_.follows
  rw [← bst_of] at hop
  have HOP := Lib.hid hop
  clear hop hl6 hc6 hb6 hv6 HAD
  go_wp2_with fail
  refine (HOP.out).mono ?_
  rintro e w7 ⟨u7, q7, v7, d7, rfl, hl7, hc7, hu7, hv7, hn7, _, hb7⟩
  have HL7 := Lib.hid hl7; have HB7 := Lib.hid hb7
  clear hl7 hc7 hb7 hv7 HOP
  go_wp2_with fail
  refine (state_c _ u7 q7 p g cap d7 3 14 3 3 X3 v7 _ false false _ HL7.out.mem).mono ?_
  rintro e w8 ⟨rfl, rfl⟩
  rw [hX3]
  go_wp2_with fail
  refine (srecs_c _ u7 q7 p g cap d7 3 14 3 3 X3 v7 _ false false _ HL7.out.mem).mono ?_
  rintro e w8 ⟨⟨v8, rfl, o8⟩, b8⟩
  have HL8 := Lib.hid (HL7.out.below b8 (Nat.le_refl _))
  have HB8 : Hid (Below w.heap.size w w8) := Lib.hid (HB7.out.trans (b8.mono HB7.out.size))
  have HR8 := Lib.hid (own_reads o8)
  clear o8 b8 HL7 HB7
  go_wp2_with fail
  have b9 : Below w8.heap.size w8 (w8.alloc (.cells #[.string ⟨#[116, 104, 114, 101, 101]⟩] 9)) := (Below.refl _ _).alloc (Nat.le_refl _) _
  have hrd := reads_one w8 X4
  rw [hR4, hX4] at hrd
  have hsm := same_c _ _ _ _ _ (HR8.out.below b9 (Nat.le_refl _)) hrd (by simp) (by simp)
  rw [decide_eq_true rfl] at hsm
  have HSM := Lib.hid hsm
  have HL9 := Lib.hid (HL8.out.below b9 (Nat.le_refl _))
  have HB9 := Lib.hid (HB8.out.trans (b9.mono HB8.out.size))
  clear hsm hrd b9
  refine (HSM.out).mono ?_
  rintro e w9 ⟨rfl, h9⟩
  have HL10 := Lib.hid (HL9.out.same h9)
  have HB10 : Hid (Below w.heap.size w w9) := Lib.hid (HB9.out.trans (h9.below _))
  clear h9
  go_wp2_with fail
  refine (seq_c _ u7 q7 p g cap d7 3 14 3 3 _ v7 _ false false _ HL10.out.mem).mono ?_
  rintro e w10 ⟨rfl, h10⟩
  have HB11 : Hid (Below w.heap.size w w10) := Lib.hid (HB10.out.trans (h10.below _))
  clear h10
  go_wp2_with fail
  go_ret
  exact ⟨rfl, HB11.out⟩
end Go.Proofs.YtmfchjbpbfkgiabGreatDoor
