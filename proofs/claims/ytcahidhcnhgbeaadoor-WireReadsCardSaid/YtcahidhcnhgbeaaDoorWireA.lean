/- The contract of awake: the examples of the document stand. Condition: the sentinels lie as the program's text lays them. -/
import Derived.Test.YtcahidhcnhgbeaaDoorWireK
namespace Go.Proofs.YtcahidhcnhgbeaaDoor
open Go Go.RowKit

theorem enc_1 : enc 1 = [2] := by unfold enc foldI; rw [encU_small (by decide)]; rfl
theorem enc_m1 : enc (-1) = [1] := by unfold enc foldI; rw [encU_small (by decide)]; rfl
theorem enc_64 : enc 64 = [128, 1] := by unfold enc foldI; rw [encU_great (by decide), encU_small (by decide)]; rfl
theorem enc_2 : enc 2 = [4] := by unfold enc foldI; rw [encU_small (by decide)]; rfl
def awT : ByteArray := ⟨#[2, 1, 128, 1, 4, 97, 98, 120]⟩
theorem aw_bytes : [] ++ enc 1 ++ enc (-1) ++ enc 64 ++ encT (⟨#[97, 98]⟩ : ByteArray).data.toList = [2, 1, 128, 1, 4, 97, 98] := by
  rw [enc_1, enc_m1, enc_64]
  show [2] ++ [1] ++ [128, 1] ++ (enc 2 ++ [97, 98]) = _
  rw [enc_2]; rfl

theorem aw_cat : (⟨#[2, 1, 128, 1, 4, 97, 98]⟩ : ByteArray) ++ ⟨#[120]⟩ = awT := cat_str [2, 1, 128, 1, 4, 97, 98] [120]
theorem aw_1 : intS awT ⟨0, none⟩ = (some 1, ⟨1, none⟩) := intS_some (n := 1) (k := 1) (by decide)
theorem aw_2 : intS awT ⟨1, none⟩ = (some (-1), ⟨2, none⟩) := intS_some (n := -1) (k := 1) (by decide)
theorem aw_3 : intS awT ⟨2, none⟩ = (some 64, ⟨4, none⟩) := intS_some (n := 64) (k := 2) (by decide)
theorem aw_4 : textS awT 5 ⟨4, none⟩ = (⟨#[97, 98]⟩, ⟨7, none⟩) := by
  have h : intS awT ⟨4, none⟩ = (some 2, ⟨5, none⟩) := intS_some (n := 2) (k := 1) (by decide)
  unfold textS; rw [h]; rfl
theorem aw_5 : boolS awT ⟨7, none⟩ = (false, ⟨8, some 7⟩) := by
  have h : intS awT ⟨7, none⟩ = (some 60, ⟨8, none⟩) := intS_some (n := 60) (k := 1) (by decide)
  unfold boolS; rw [h]; rfl

set_option maxHeartbeats 3200000 in
set_option maxRecDepth 100000 in
theorem awake_c (s : Nat → Addr) (w : World) (hs : Sent s w) :
    Calls Tryd.prog 7 #[] w fun e w' => e = .returned (.bool true) ∧ Below w.heap.size w w' := by
  have hab := Lib.hid aw_bytes
  go_enter Tryd.func7, Tryd.ntmps7
  go_wp2_with fail
  refine (out_int 1 w.heap.size w.heap.size [] _ (by unfold I64; omega) (OutAt.new w) (by simp)).mono ?_
  rintro e w1 ⟨rfl, o1, h1, g1, q1⟩
  rw [World.size_alloc] at q1
  have hz1 := g1.size
  rw [World.size_alloc] at hz1
  go_wp2_with fail
  refine (out_int (-1) w.heap.size o1 _ _ (by unfold I64; omega) h1 (by rw [enc_1]; simp)).mono ?_
  rintro e w2 ⟨rfl, o2, h2, g2, q2⟩
  have hz2 := g2.size
  go_wp2_with fail
  refine (out_int 64 w.heap.size o2 _ _ (by unfold I64; omega) h2 (by rw [enc_1, enc_m1]; simp)).mono ?_
  rintro e w3 ⟨rfl, o3, h3, g3, q3⟩
  have hz3 := g3.size
  go_wp2_with fail
  refine (out_text ⟨#[97, 98]⟩ w.heap.size o3 _ _ h3 (by rw [enc_1, enc_m1, enc_64]; simp) (by decide)).mono ?_
  rintro e w4 ⟨rfl, o4, h4, g4, q4⟩
  have hz4 := g4.size
  rw [hab.out] at h4
  have C4 : Hid (Chg w.heap.size w.heap.size (w.alloc (.cells #[.slice none 0 0] 27)) w4) := Lib.hid (g1.trans (g2.trans (g3.trans g4 q3) q2) (by rw [World.size_alloc]; omega))
  clear h1 h2 h3 g1 g2 g3 g4 q1 q2 q3
  go_wp2_with fail
  refine (out_bytes w.heap.size o4 _ _ h4).mono ?_
  rintro e w5 ⟨rfl, rfl⟩
  go_wp2_with fail
  rw [aw_cat]
  refine (of_c s awT _).mono ?_
  rintro e w6 ⟨rfl, i6, b6⟩
  have hq : w.heap.size ≤ w4.heap.size := by omega
  have hlt4 := h4.lt
  have K4 : Hid (Below w.heap.size w w4) := Lib.hid (((Below.refl _ _).alloc (Nat.le_refl _) _).trans (C4.out.below (Nat.le_refl _) (Nat.le_refl _) (by rw [World.size_alloc]; omega)))
  have K6 : Hid (Below w.heap.size w w6) := Lib.hid (K4.out.trans (b6.mono hq))
  have O6 : OutAt w6 w.heap.size o4 [2, 1, 128, 1, 4, 97, 98] := h4.below b6 hlt4.1 hlt4.2.2
  have HI6 := Lib.hid i6; clear i6 b6 h4 C4 K4 q4
  obtain ⟨q, hqq⟩ : ∃ q, q = w4.heap.size := ⟨_, rfl⟩
  rw [← hqq] at hq HI6 ⊢
  clear hqq hlt4 hz1 hz2 hz3 hz4 hab
  go_wp2_with fail
  refine (out_bytes w.heap.size o4 _ _ O6).mono ?_
  rintro e w5 ⟨rfl, rfl⟩
  clear O6
  go_wp2_with fail
  refine (int_n s q _ awT _ ⟨1, none⟩ 1 _ (SentB.of hs K6.out hq) (by decide) HI6.out (by rw [aw_1]) (by rw [aw_1]; rfl)).mono ?_
  rintro e w7 ⟨rfl, f7, i7, g7, r7⟩
  have K7 : Hid (Below w.heap.size w w7) := Lib.hid (K6.out.trans (g7.below hq hq K6.out.size))
  have HI7 := Lib.hid i7
  clear i7 g7 r7 HI6 K6
  go_wp2_with fail
  refine (int_n s q _ awT _ ⟨2, none⟩ (-1) _ (SentB.of hs K7.out hq) (by decide) HI7.out (by rw [aw_2]) (by rw [aw_2]; rfl)).mono ?_
  rintro e w8 ⟨rfl, f8, i8, g8, r8⟩
  have K8 : Hid (Below w.heap.size w w8) := Lib.hid (K7.out.trans (g8.below hq hq K7.out.size))
  have HI8 := Lib.hid i8
  clear i8 g8 r8 HI7 K7
  go_wp2_with fail
  refine (int_n s q _ awT _ ⟨4, none⟩ 64 _ (SentB.of hs K8.out hq) (by decide) HI8.out (by rw [aw_3]) (by rw [aw_3]; rfl)).mono ?_
  rintro e w9 ⟨rfl, f9, i9, g9, r9⟩
  have K9 : Hid (Below w.heap.size w w9) := Lib.hid (K8.out.trans (g9.below hq hq K8.out.size))
  have HI9 := Lib.hid i9
  clear i9 g9 r9 HI8 K8
  go_wp2_with fail
  refine (text_c s q _ awT 5 _ _ (SentB.of hs K9.out hq) (by decide) HI9.out).mono ?_
  rintro e w10 ⟨rfl, f10, i10, g10, r10⟩
  rw [aw_4] at i10
  rw [aw_4]
  have K10 : Hid (Below w.heap.size w w10) := Lib.hid (K9.out.trans (g10.below hq hq K9.out.size))
  have HI10 := Lib.hid i10
  clear i10 g10 r10 HI9 K9
  go_wp2_with fail
  refine (err_none s q _ awT _ _ rfl HI10.out).mono ?_
  rintro e w11 ⟨rfl, b11⟩
  have K11 : Hid (Below w.heap.size w w11) := Lib.hid (K10.out.trans (b11.mono K10.out.size))
  have HI11 := Lib.hid (HI10.out.below b11 HI10.out.lt.1 HI10.out.lt.2.2)
  clear b11 HI10 K10
  go_wp2_with fail
  refine (end_more s q _ awT _ _ (SentB.of hs K11.out hq).sent (by decide) rfl (by decide) HI11.out).mono ?_
  rintro e w12 ⟨⟨ev, rfl, hF⟩, b12⟩
  have K12 : Hid (Below w.heap.size w w12) := Lib.hid (K11.out.trans (b12.mono K11.out.size))
  have HI12 := Lib.hid (HI11.out.below b12 HI11.out.lt.1 HI11.out.lt.2.2)
  clear b12 HI11 K11
  have HF := Lib.hid hF; clear hF
  go_wp2_with fail
  refine (at_fault s opEnd 7 ev _ (SentB.of hs K12.out hq).sent HF.out).mono ?_
  rintro e w13 ⟨rfl, b13⟩
  have K13 : Hid (Below w.heap.size w w13) := Lib.hid (K12.out.trans (b13.mono K12.out.size))
  have HI13 := Lib.hid (HI12.out.below b13 HI12.out.lt.1 HI12.out.lt.2.2)
  clear b13 HI12 K12 HF
  go_wp2_with fail
  refine (left_c s q _ awT _ _ (by decide) HI13.out).mono ?_
  rintro e w14 ⟨rfl, nd, rfl⟩
  have K14 : Hid (Below w.heap.size w (w13.drewN nd)) := Lib.hid (below_drewN K13.out nd)
  have HI14 := Lib.hid (HI13.out.drewN nd)
  clear HI13 K13
  rw [show ((awT.size : Nat) : Int) - ((7 : Nat) : Int) = 1 from by decide]
  go_wp2_with fail
  refine (bool_c s q _ awT _ _ (SentB.of hs K14.out hq) (by decide) HI14.out).mono ?_
  rintro e w15 ⟨rfl, f15, i15, g15, r15⟩
  rw [aw_5] at i15
  rw [aw_5]
  have K15 : Hid (Below w.heap.size w w15) := Lib.hid (K14.out.trans (g15.below hq hq K14.out.size))
  have HI15 := Lib.hid i15
  clear i15 g15 r15 HI14 K14
  go_wp2_with fail
  refine (err_some s q _ 7 awT _ _ (SentB.of hs K15.out hq).sent rfl HI15.out).mono ?_
  rintro e w16 ⟨⟨ev2, rfl, hF⟩, b16⟩
  have K16 : Hid (Below w.heap.size w w16) := Lib.hid (K15.out.trans (b16.mono K15.out.size))
  have HF := Lib.hid hF; clear hF
  clear b16 HI15 K15
  go_wp2_with fail
  refine (at_fault s opRead 7 ev2 _ (SentB.of hs K16.out hq).sent HF.out).mono ?_
  rintro e w17 ⟨rfl, b17⟩
  have K17 : Hid (Below w.heap.size w w17) := Lib.hid (K16.out.trans (b17.mono K16.out.size))
  clear b17 K16 HF
  go_wp2_with fail
  go_ret
  exact ⟨rfl, K17.out⟩
end Go.Proofs.YtcahidhcnhgbeaaDoor
