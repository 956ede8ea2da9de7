/- The reference's fit by contract: At. Conditions: the spots lie in memory. -/
import Derived.Test.YtejaljcgcmdlgaaDoorFtU
namespace Go.Proofs.YtejaljcgcmdlgaaDoor
open Go Go.RowKit

/-- The place of the best, as the reference tells it. -/
def placeS : Option (Nat × Spt) → Int
  | none => -1
  | some (a, _) => (a : Int)
theorem own_spt {t : TypeId} {w : World} {base m c : Nat} {A : Option Addr} {L : List Spt} (h : OwnE encSpt t w base (.slice A m c) L) {i : Nat} {s : Spt} (hi : L[i]? = some s) :
    ∃ ad ga, A = some ad ∧ (∀ j, j < L.length → ad.add (j * 5) = ⟨ga, j * 5, none⟩) ∧ SpAt w ga (i * 5) s ∧ (∀ j y, L[j]? = some y → SpAt w ga (j * 5) y) := by
  obtain ⟨g, cap, hv, _, _, hg, hf, hc⟩ := h.some (Nat.lt_of_le_of_lt (Nat.zero_le _) (List.getElem?_eq_some_iff.1 hi).1)
  simp only [Value.slice.injEq] at hv
  obtain ⟨rfl, _, _⟩ := hv
  have key : ∀ j y, L[j]? = some y → SpAt w g (j * 5) y := fun j y hj => ⟨hc j y hj 0 _ rfl, hc j y hj 1 _ rfl, hc j y hj 2 _ rfl, hc j y hj 3 _ rfl, hc j y hj 4 _ rfl, hg, hf⟩
  exact ⟨_, g, rfl, fun j _ => by unfold Addr.add; split <;> simp_all, key i s hi, key⟩

set_option maxRecDepth 100000 in
set_option maxHeartbeats 3200000 in
theorem rat_c (x : V4) (base : Nat) (v : Value) (L : List Spt) (w : World) (h : OwnE encSpt 34 w base v L) (hn : L.length ≤ 1000000) :
    Calls Tryd.prog 9 #[v, .agg #[.int .i64 x.a, .int .i64 x.b, .int .i64 x.c, .int .i64 x.d]] w fun e w' => e = .returned (.int .i64 (placeS (bestS x L))) ∧ Below w.heap.size w w' := by
  obtain ⟨A, cap, rfl⟩ := h.form
  have OW := Lib.hid h
  clear h
  obtain ⟨W1, hW1⟩ : ∃ W1, w.alloc (.cells #[.int .i64 x.a, .int .i64 x.b, .int .i64 x.c, .int .i64 x.d] 31) = W1 := ⟨_, rfl⟩
  obtain ⟨g, hg⟩ : ∃ g, w.heap.size = g := ⟨_, rfl⟩
  have HB1 : Hid (Below w.heap.size w W1) := Lib.hid (by rw [← hW1]; exact (Below.refl _ _).alloc (Nat.le_refl _) _)
  have HV1 : Hid (Vk W1 g x) := Lib.hid (by rw [← hW1, ← hg]; exact heap_alloc_new w _)
  have E1 := Lib.hid hW1
  have E2 := Lib.hid hg
  clear hW1 hg
  go_enter Tryd.func9, Tryd.ntmps9
  go_upto_region 3 with fail
  rw [E1.out, E2.out]
  go_loopg [5, 6] L.length (fun gk s5 s6 wr => ∃ (k : Nat), s6 = .int .i64 k ∧ k ≤ L.length ∧ L.length - k ≤ gk ∧ s5 = .int .i64 (placeS (bestS x (L.take k))) ∧ Aside (Below W1.heap.size W1 wr))
  case atStart => exact ⟨0, rfl, Nat.zero_le _, Nat.le_refl _, rfl, Below.refl _ _⟩
  case round =>
    obtain ⟨k, rfl, hk, hgk, rfl, IN⟩ := hrel
    have HIN := Lib.hid IN.out
    have HB0 : Hid (Below w.heap.size w wr) := Lib.hid (HB1.out.trans (IN.out.mono HB1.out.size))
    have HVR : Hid (Vk wr g x) := Lib.hid (HV1.out.on IN.out)
    clear IN
    by_cases hlt : k < L.length
    · obtain ⟨s, hs⟩ : ∃ s, L[k]? = some s := ⟨_, List.getElem?_eq_getElem hlt⟩
      have hltz : (k : Int) < (L.length : Int) := by omega
      have hst := bestS_take (x := x) hs
      obtain ⟨ad, ga, rfl, hadd, hsp, hall⟩ := own_spt (OW.out.on HB0.out) hs
      have HS := Lib.hid hsp
      have HALL := Lib.hid hall
      have HADD := Lib.hid hadd
      have HST := Lib.hid hst
      have HX := Lib.hid hs
      have HBG : ∀ a t, bestS x (L.take k) = some (a, t) → a < k ∧ L[a]? = some t := fun a t h => by
        have := bestS_get h
        rw [List.getElem?_take] at this
        split at this
        · exact ⟨by assumption, this⟩
        · cases this
      clear hall hadd hst hsp hs
      generalize hbe : bestS x (L.take k) = be at *
      go_upto_region 5 with fail
      have hsl : ga < wr.heap.size := HS.out.2.2.2.2.2.1
      have HSL := Lib.hid hsl
      refine wp_reg (opsOf Tryd.f9 5) (by kernel_rfl) ?_
      refine at_r5 _ _ _ _ _ _ _ _ _ _ _ _ _ _ _ _ _ _ _ _ _ _ _ _ _ _ _ _ _ _ _ _ _ _ _ _ _ _ _ _ _ _ _ _ _ _ _ _ _ _ _ _ _ _ _ _ _ _ _ _ ad L.length cap g ga k s x _ wr (HADD.out k hlt) hltz HS.out HVR.out hsl ?_
      intro _ _ _ _ _ _ _ _ _ g7 w5 z5 hg7 b5
      have HZ5 := Lib.hid z5
      have HG7 := Lib.hid hg7
      have HB5 := Lib.hid b5
      clear z5 hg7 b5
      have HDN : Hid (∀ w6, Below wr.heap.size wr w6 → Below W1.heap.size W1 w6) := Lib.hid fun w6 b => HIN.out.trans (b.mono HIN.out.size)
      by_cases hf : fitS s x
      · rw [decide_eq_true hf]
        cases be with
        | none =>
          have hb2 : bestS x (L.take (k + 1)) = some (k, s) := by rw [HST.out]; unfold stepS; simp only; rw [if_pos hf]
          have HB2 := Lib.hid hb2
          clear hb2 hf HBG hbe
          rw [show placeS none = -1 from rfl]
          go_wp2_with fail
          go_roundg (L.length - (k + 1))
          case measure => omega
          case rel => exact ⟨k + 1, by go_num, by omega, Nat.le_refl _, by rw [HB2.out]; rfl, HDN.out _ HB5.out⟩
        | some p =>
          obtain ⟨a, t⟩ := p
          obtain ⟨hak, hat⟩ := HBG a t rfl
          have hst2 : bestS x (L.take (k + 1)) = if betS x s t then some (k, s) else some (a, t) := by rw [HST.out]; unfold stepS; simp only; rw [if_pos hf]
          have HST2 := Lib.hid hst2
          have HAK := Lib.hid hak
          have HAT := Lib.hid hat
          have hal : (a : Int) < (L.length : Int) := by omega
          have han : ¬ ((a : Int) < 0) := by omega
          clear hst2 hak hat hf HBG hbe
          rw [show placeS (some (a, t)) = (a : Int) from rfl]
          go_upto_region 9 with fail
          refine wp_reg (opsOf Tryd.f9 9) (by kernel_rfl) ?_
          refine at_r9 _ _ _ _ _ _ _ _ _ _ _ _ _ _ _ _ _ _ _ _ _ _ _ _ _ _ _ _ _ _ _ _ _ _ _ _ _ _ _ _ _ _ _ _ _ _ _ _ _ _ _ _ _ _ _ _ _ _ _ _ ad L.length cap g ga a t x _ w5 (HADD.out a (by have := HAK.out; omega)) hal ((HALL.out a t HAT.out).on HB5.out) (HVR.out.on HB5.out) (by have := HB5.out.size; have := HSL.out; omega) ?_
          intro _ _ _ _ _ _ _ _ _ g9 w6 z6 hg9 b6
          have HZ6 := Lib.hid z6
          have HB6 := Lib.hid b6
          clear z6 hg9 b6
          have HB56 : Hid (Below wr.heap.size wr w6) := Lib.hid (HB5.out.trans (HB6.out.mono HB5.out.size))
          go_upto_region 10 with fail
          refine wp_reg (opsOf Tryd.f9 10) (by kernel_rfl) ?_
          refine at_r10 _ _ _ _ _ _ _ _ _ _ _ _ _ _ _ _ _ _ _ _ _ _ _ _ _ _ _ _ _ _ _ _ _ _ _ _ _ _ _ _ _ _ _ _ _ _ _ _ _ _ _ _ _ _ _ _ _ _ ad L.length cap g7 g9 ga a k s.id t.id (remS s x) (remS t x) _ w6 (HADD.out k hlt) (HADD.out a (by have := HAK.out; omega)) hltz hal (HS.out.on HB56.out).1 ((HALL.out a t HAT.out).on HB56.out).1 (HZ5.out.on HB6.out) HZ6.out (by have := HB56.out.size; have := HSL.out; omega) ?_
          intro _ _ _ _ _ _ _ _ _ _ _ _ _ _ _ _ _ _ _ _ w7 b7
          have HB7 : Hid (Below wr.heap.size wr w7) := Lib.hid (HB56.out.trans (b7.mono HB56.out.size))
          clear b7
          rw [show (lessV (remS s x) (remS t x) || (decide (remS s x = remS t x) && decide (s.id < t.id))) = betS x s t from rfl]
          cases hbt : betS x s t with
          | true =>
            have hb2 : bestS x (L.take (k + 1)) = some (k, s) := by rw [HST2.out, hbt]; rfl
            have HB2 := Lib.hid hb2
            clear hb2 hbt
            go_wp2_with fail
            go_roundg (L.length - (k + 1))
            case measure => omega
            case rel => exact ⟨k + 1, by go_num, by omega, Nat.le_refl _, by rw [HB2.out]; rfl, HDN.out _ HB7.out⟩
          | false =>
            have hb2 : bestS x (L.take (k + 1)) = some (a, t) := by rw [HST2.out, hbt]; rfl
            have HB2 := Lib.hid hb2
            clear hb2 hbt
            go_wp2_with fail
            go_roundg (L.length - (k + 1))
            case measure => omega
            case rel => exact ⟨k + 1, by go_num, by omega, Nat.le_refl _, by rw [HB2.out]; rfl, HDN.out _ HB7.out⟩
      · have hb2 : bestS x (L.take (k + 1)) = be := by rw [HST.out]; unfold stepS; cases be <;> simp only <;> rw [if_neg hf]
        have HB2 := Lib.hid hb2
        rw [decide_eq_false hf]
        clear hb2 hf HBG hbe
        go_wp2_with fail
        go_roundg (L.length - (k + 1))
        case measure => omega
        case rel => exact ⟨k + 1, by go_num, by omega, Nat.le_refl _, by rw [HB2.out], HDN.out _ HB5.out⟩
    · obtain rfl : k = L.length := by omega
      have hlz : ¬ ((L.length : Int) < (L.length : Int)) := by omega
      rw [List.take_length]
      clear hn
      go_wp2_with fail
      go_ret
      exact ⟨rfl, HB0.out⟩
end Go.Proofs.YtejaljcgcmdlgaaDoor
