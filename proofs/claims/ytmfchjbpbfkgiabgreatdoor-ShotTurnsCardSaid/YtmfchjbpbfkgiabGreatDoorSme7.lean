/- The law's own comparison of two rows of texts. No conditions but that they lie in memory. -/
import Derived.Test.YtmfchjbpbfkgiabGreatDoorLgRd
namespace Go.Proofs.YtmfchjbpbfkgiabGreatDoor
open Go Go.RowKit

/-- What a round of the comparing begins with. -/
def SaRel (w : World) (X Y : List (List UInt8)) (x : Value) (wr : World) : Prop := ∃ j : Nat, x = .int .i64 (j : Int) ∧ j ≤ X.length ∧ X.take j = Y.take j ∧ Same w wr

set_option maxHeartbeats 1600000 in
set_option maxRecDepth 100000 in
/-- Are two rows of texts the same? -/
theorem same_c (v1 v2 : Value) (X Y : List (List UInt8)) (w : World) (h1 : Reads w v1 X) (h2 : Reads w v2 Y) (hl : X.length ≤ 100000) (hl2 : Y.length ≤ 9223372036854775807) :
    Calls Tryz.prog 11 #[v1, v2] w fun e w' => e = .returned (.bool (decide (X = Y))) ∧ Same w w' := by
  obtain ⟨A, c, rfl, _, hX⟩ := h1
  obtain ⟨A', c', rfl, _, hY⟩ := h2
  have HX := Lib.hid hX; have HY := Lib.hid hY
  clear hX hY
  by_cases hlen : X.length = Y.length
  · have hne : ((X.length : Int) != (Y.length : Int)) = false := by rw [bne_eq_false_iff_eq, hlen]
    have HST : Hid (SaRel w X Y (.int .i64 0) w) := Lib.hid ⟨0, rfl, Nat.zero_le _, rfl, Same.refl w⟩
    have HL := Lib.hid hlen; clear hlen
    go_enter Tryz.func11, Tryz.ntmps11
    go_wp2_with fail
    go_loopw [5] (fun x wr => SaRel w X Y x wr) (fun x _ => X.length - (intOf x).toNat)
    case atStart => exact HST.out
    case round =>
      obtain ⟨j, rfl, hj, ht, hs⟩ := hrel
      clear HST
      by_cases hjn : j < X.length
      · have hjy : j < Y.length := by rw [← HL.out]; exact hjn
        have hx : X[j]? = some X[j] := List.getElem?_eq_getElem hjn
        have hy : Y[j]? = some Y[j] := List.getElem?_eq_getElem hjy
        obtain ⟨a, ha, _, ca⟩ := (HX.out.same hs).cell (i := j) (z := bst X[j]) (by rw [List.getElem?_map, hx]; rfl)
        obtain ⟨a', ha', _, ca'⟩ := (HY.out.same hs).cell (i := j) (z := bst Y[j]) (by rw [List.getElem?_map, hy]; rfl)
        subst ha; subst ha'
        have j0 : (0 : Int) ≤ (j : Int) := by omega
        have j1 : (j : Int) < (X.length : Int) := by omega
        have j2 : (j : Int) < (Y.length : Int) := by omega
        obtain ⟨P, hP⟩ : ∃ P, bst X[j] = P := ⟨_, rfl⟩
        obtain ⟨Q, hQ⟩ : ∃ Q, bst Y[j] = Q := ⟨_, rfl⟩
        rw [hP] at ca
        rw [hQ] at ca'
        have hxy : (P = Q) ↔ X[j] = Y[j] := by rw [← hP, ← hQ]; exact ⟨bst_inj, fun h => by rw [h]⟩
        by_cases he : X[j] = Y[j]
        · have hb : (P.toList == Q.toList) = true := by rw [str_beqK, decide_eq_true (hxy.2 he)]
          have HN : Hid (∀ W, Same wr W → SaRel w X Y (.int .i64 ((j : Int) + 1)) W) := Lib.hid fun W hW => ⟨j + 1, ret_v (by omega), hjn, by rw [List.take_add_one, List.take_add_one, hx, hy, ht, he], hs.trans hW⟩
          clear hx hy hP hQ hxy he ht hs
          go_wp2_with fail
          go_region
          all_goals go_wp2_with fail
          all_goals go_roundw
          all_goals first
            | (simp [intOf]; omega)
            | (refine HN.out _ ?_; first | exact Same.drewN _ _ | exact Same.refl _ | exact ⟨rfl, rfl, rfl, rfl, fun _ => rfl⟩)
        · have hb : (P.toList == Q.toList) = false := by rw [str_beqK, decide_eq_false (fun h => he (hxy.1 h))]
          have HN : Hid (decide (X = Y) = false) := Lib.hid (decide_eq_false fun h => he (by subst h; rfl))
          have HS := Lib.hid hs
          clear hx hy hP hQ hxy he ht hs
          go_wp2_with fail
          go_region
          all_goals go_wp2_with fail
          all_goals go_ret
          all_goals exact ⟨by rw [HN.out]; rfl, HS.out.trans ⟨rfl, rfl, rfl, rfl, fun _ => rfl⟩⟩
      · have heq : X = Y := by
          rw [List.take_of_length_le (by omega), List.take_of_length_le (by rw [← HL.out]; omega)] at ht
          exact ht
        have HN : Hid (decide (X = Y) = true) := Lib.hid (decide_eq_true heq)
        have HS := Lib.hid hs
        have hge : ¬ ((j : Int) < (X.length : Int)) := by omega
        clear heq ht hs
        go_wp2_with fail
        go_ret
        exact ⟨by rw [HN.out]; rfl, HS.out⟩
  · have hne : ((X.length : Int) != (Y.length : Int)) = true := by rw [bne_iff_ne]; omega
    have HN : Hid (decide (X = Y) = false) := Lib.hid (decide_eq_false fun h => hlen (by rw [h]))
    clear hlen
    go_enter Tryz.func11, Tryz.ntmps11
    go_wp2_with fail
    go_ret
    exact ⟨by rw [HN.out]; rfl, Same.refl _⟩
end Go.Proofs.YtmfchjbpbfkgiabGreatDoor
