/- The law AllocKeeps: for every two rows of numbers and every number the call returns true, and the arguments read afterwards as before. Conditions: the row's own; the package variables start as the program's text lays them (tied by the card). -/
import Derived.Test.YtfikkjdkgigikaaDoorLawM
import Derived.Test.YtfikkjdkgigikaaDoorOpenIs
import Derived.Test.YtfikkjdkgigikaaDoorAlKc
import Derived.Test.YtfikkjdkgigikaaDoorCards
import Derived.Test.YtfikkjdkgigikaaDoorTie
import Derived.SevenTiedAt
namespace Go.Proofs.YtfikkjdkgigikaaDoor
open Go Go.ChangeShapes Go.WideShapes Go.ChangeAt Go.WideMaps Go.WideElems Go.RowKit

set_option maxRecDepth 100000 in
theorem allocKeeps_lifted (os : Os) (started : os.Started) (H : Type) (enc : TypeId × Value → H) :
    ReturnsInHanded {} Tryd.checked os 4 .any (fun w args => (Rows.allocKeepsSpec.pre enc Tryd.prog Tryd.f4 [] false w args ∧ laidMetH Tryd.prog laidL w) ∧ sizedMet enc Tryd.prog Tryd.f4 (OpenSpec.ofChange Rows.allocKeepsSpec) false w args)
      (Rows.allocKeepsSpec.post enc Tryd.prog Tryd.f4 false true false false) := by
  refine returnsInHanded_of_change_and (C := Tryd.checked) (X := fun w _ => laidMetH Tryd.prog laidL w) (fun _ _ _ hh h => h.of_heap hh) Tryd.own started (by kernel_rfl) Tryd.func4
    (ChangeSpec.witness_shaped (enc := enc) (C := Tryd.checked) (os := os) (X := fun w _ => laidMetH Tryd.prog laidL w) false (World.doorLaid Tryd.prog 275 os) #[.slice none 0 0, .slice none 0 0, .int .i64 0] 8 rfl (World.shaped_of_RefB (by kernel_rfl) (by kernel_rfl)) (by kernel_rfl) (by kernel_rfl) (by kernel_rfl) (door_met os _)) ?_
  intro W base args ds gs before hval0 hW _ _ hL _
  have hval : ∀ (j : Nat) t v, Tryd.f4.params[j]? = some t → args[j]? = some v → Value.okWide Tryd.prog W .any base t v := hval0
  have hW' := hW
  obtain ⟨p, q, hA0, hV, rfl, hfz, hnd⟩ := hW
  have hA : DataW.TrodAll enc Tryd.prog W 0 (fun _ => true) true Tryd.f4.params.toList args.toList ds p := hA0
  rw [Tryd.params4] at hA hval
  obtain ⟨v0, v1, v2, d0, d1, d2, p0, p1, p2, rfl, rfl, rfl, h0, h1, h2⟩ := trodAll_three hA
  obtain ⟨AL, cL, L, rfl, hAL, hGL, hlL, hcL⟩ := open_ints16 (hval 0 67 v0 rfl rfl) h0
  obtain ⟨AN, cN, N, rfl, hAN, hGN, hlN, hcN⟩ := open_ints16 (hval 1 67 v1 rfl rfl) h1
  obtain ⟨room, rfl, rfl, rfl, w_room⟩ := open_int Tryd.underlying3 (hval 2 3 v2 rfl rfl) h2
  obtain ⟨rfl, rfl⟩ := trodVars_none hV
  obtain ⟨s, hs⟩ := sent_of_laid hL
  refine (akeeps_any s AL cL L AN cN N room W hs (lies_reads (by decide) hAL) (lies_reads (by decide) hAN) (by omega) (by omega)).mono fun e W' ⟨he, hb⟩ => ?_
  subst he
  exact ⟨_, rfl, law_post rfl rfl (by rw [Tryd.params4]; exact fun t ht => by revert t; decide +kernel) hW' rfl hb⟩

theorem allocKeeps_holds : Rows.AllocKeepsSaid :=
  OpenClaim.holds_of_wide 4 Tryd.f4 rfl rfl rfl rfl rfl rfl rfl ⟨rfl, rfl, rfl, rfl, rfl⟩ rfl rfl rfl rfl rfl (by kernel_rfl) Tryd.func4 (by kernel_rfl)
    (of_decide_eq_true (by kernel_rfl)) (by unfold Func.isWrapper; first | (rw [if_pos (by decide +kernel)]; kernel_rfl) | (rw [if_neg (by decide +kernel)]; exact ⟨rfl, rfl⟩))
    (fun os started H enc _ => allocKeeps_lifted os started H enc)

theorem allocKeeps_card : Rows.AllocKeepsCardSaid :=
  Claim7.holds_tied_plain_at .later [] Rows.allocKeepsCard.laidKinds true Rows.allocKeepsCard.stood.harness true
    allocKeeps_holds (fun _ h => by cases h) (by kernel_rfl) (fun _ h => by cases h) allocKeeps_row_tie rfl ⟨rfl, rfl⟩ (by kernel_rfl) rfl
    (fun f fn hf hfn => by
      obtain rfl : f = 4 := Option.some.inj ((show Tryd.prog.funcNamed "quitrent/quitrentlaw17.AllocKeeps" = some 4 by kernel_rfl).symm.trans hf) |>.symm
      obtain rfl : fn = Tryd.f4 := (Option.some.inj (Tryd.func4.symm.trans hfn)).symm
      exact ⟨by kernel_rfl, fun j t ht => by
        rw [Tryd.params4] at ht
        have hm : t ∈ [67, 67, 3] := by simpa using Array.mem_of_getElem? ht
        have hall : ([67, 67, 3].all fun u => !Tryd.prog.wantsStandIn u) = true := by kernel_rfl
        exact (show Tryd.prog.wantsStandIn t = false by simpa using List.all_eq_true.1 hall t hm)⟩)
    (by kernel_rfl)
#print axioms allocKeeps_card
end Go.Proofs.YtfikkjdkgigikaaDoor
