/- The law ShotKeeps: for every row of rows of strings and every two rows of numbers the call returns true, and the arguments read afterwards as before. Conditions: the row's own; the package variables start as the program's text lays them (tied by the card). -/
import Derived.Test.YtmfchjbpbfkgiaaGreatDoorLawK
import Derived.Test.YtmfchjbpbfkgiaaGreatDoorOpenL
import Derived.Test.YtmfchjbpbfkgiaaGreatDoorShG
import Derived.Test.YtmfchjbpbfkgiaaGreatDoorCards
import Derived.Test.YtmfchjbpbfkgiaaGreatDoorTie
import Derived.SevenTiedAt
namespace Go.Proofs.YtmfchjbpbfkgiaaGreatDoor
open Go Go.ChangeShapes Go.WideShapes Go.ChangeAt Go.WideMaps Go.WideElems Go.RowKit

set_option maxRecDepth 100000 in
theorem shotKeeps_lifted (os : Os) (started : os.Started) (H : Type) (enc : TypeId × Value → H) :
    ReturnsInHanded {} Tryz.checked os 5 .any (fun w args => (Rows.shotKeepsSpec.pre enc Tryz.prog Tryz.f5 [] false w args ∧ laidMetH Tryz.prog laidL w) ∧ sizedMet enc Tryz.prog Tryz.f5 (OpenSpec.ofChange Rows.shotKeepsSpec) false w args)
      (Rows.shotKeepsSpec.post enc Tryz.prog Tryz.f5 false true false false) := by
  refine returnsInHanded_of_change_and (C := Tryz.checked) (X := fun w _ => laidMetH Tryz.prog laidL w) (fun _ _ _ hh h => h.of_heap hh) Tryz.own started (by kernel_rfl) Tryz.func5
    (ChangeSpec.witness_shaped (enc := enc) (C := Tryz.checked) (os := os) (X := fun w _ => laidMetH Tryz.prog laidL w) false (wit os) #[.slice none 0 0, .slice none 0 0, .slice none 0 0] 8 (wit_os os) (World.shaped_of_ZipB (by kernel_rfl) (by kernel_rfl)) (by kernel_rfl) (by kernel_rfl) (by kernel_rfl) (door_met os _)) ?_
  intro W base args ds gs before hval0 hW _ _ hL _
  have hval : ∀ (j : Nat) t v, Tryz.f5.params[j]? = some t → args[j]? = some v → Value.okWide Tryz.prog W .any base t v := hval0
  have hW' := hW
  obtain ⟨p, q, hA0, hV, rfl, hfz, hnd⟩ := hW
  have hA : DataW.TrodAll enc Tryz.prog W 0 (fun _ => true) true Tryz.f5.params.toList args.toList ds p := hA0
  rw [Tryz.params5] at hA hval
  obtain ⟨v0, v1, v2, d0, d1, d2, p0, p1, p2, rfl, rfl, rfl, h0, h1, h2⟩ := trodAll_three hA
  obtain ⟨Azs, czs, zs, rfl, hAzs, hlzs, _⟩ := open_ssrow (hval 0 57 v0 rfl rfl) h0
  obtain ⟨Afs, cfs, fs, rfl, hAfs, hlfs, _⟩ := open_introw (hval 1 23 v1 rfl rfl) h1
  obtain ⟨Ats, cts, ts, rfl, hAts, hlts, _⟩ := open_introw (hval 2 23 v2 rfl rfl) h2
  obtain ⟨rfl, rfl⟩ := trodVars_none hV
  obtain ⟨s, hs⟩ := sent_of_laid hL
  refine (skeeps_any s Azs czs zs Afs cfs fs Ats cts ts W hs hAzs hlzs hAfs hlfs hAts hlts).mono fun e W' ⟨he, hb⟩ => ?_
  subst he
  exact ⟨_, rfl, law_post rfl rfl (by rw [Tryz.params5]; exact fun t ht => by revert t; decide +kernel) hW' rfl hb⟩

theorem shotKeeps_holds : Rows.ShotKeepsSaid :=
  OpenClaim.holds_of_wide 5 Tryz.f5 rfl rfl rfl rfl rfl rfl rfl ⟨rfl, rfl, rfl, rfl, rfl⟩ rfl rfl rfl rfl rfl (by kernel_rfl) Tryz.func5 (by kernel_rfl)
    (of_decide_eq_true (by kernel_rfl)) (by unfold Func.isWrapper; first | (rw [if_pos (by decide +kernel)]; kernel_rfl) | (rw [if_neg (by decide +kernel)]; exact ⟨rfl, rfl⟩))
    (fun os started H enc _ => shotKeeps_lifted os started H enc)

theorem shotKeeps_card : Rows.ShotKeepsCardSaid :=
  Claim7.holds_tied_plain_at .later [] Rows.shotKeepsCard.laidKinds true Rows.shotKeepsCard.stood.harness true
    shotKeeps_holds (fun _ h => by cases h) (by kernel_rfl) (fun _ h => by cases h) shotKeeps_row_tie rfl ⟨rfl, rfl⟩ (by kernel_rfl) rfl
    (fun f fn hf hfn => by
      obtain rfl : f = 5 := Option.some.inj ((show Tryz.prog.funcNamed "quitrent/quitrentlaw07.ShotKeeps" = some 5 by kernel_rfl).symm.trans hf) |>.symm
      obtain rfl : fn = Tryz.f5 := (Option.some.inj (Tryz.func5.symm.trans hfn)).symm
      exact ⟨by kernel_rfl, fun j t ht => by
        rw [Tryz.params5] at ht
        have hm : t ∈ [57, 23, 23] := by simpa using Array.mem_of_getElem? ht
        have hall : ([57, 23, 23].all fun u => !Tryz.prog.wantsStandIn u) = true := by kernel_rfl
        exact (show Tryz.prog.wantsStandIn t = false by simpa using List.all_eq_true.1 hall t hm)⟩)
    (by kernel_rfl)
#print axioms shotKeeps_card
end Go.Proofs.YtmfchjbpbfkgiaaGreatDoor
