/- What the laws of layer 9 ask of the document's example. Condition: ErrArg lies where the program's text lays it. -/
import Derived.Test.YtlakabcbebahhaaDoorSpR
namespace Go.Proofs.YtlakabcbebahhaaDoor
open Go Go.RowKit Go.Extern.Stop Go.Stop Go.Extern

set_option maxRecDepth 100000 in
set_option maxHeartbeats 1600000 in
theorem awake_c (a : Addr) (w : World) (hs : ArgAt a w) :
    Calls Tryd.prog 6 #[] w fun e w' => e = .returned (.bool true) ∧ Below w.heap.size w w' := by
  have HS := Lib.hid hs; clear hs
  go_enter Tryd.func6, Tryd.ntmps6
  go_wp2_with fail
  refine (at_c a 25 10 _ HS.out).mono ?_
  rw [show winOf 25 10 = (2, 0) from rfl, errA_zero]
  rintro e w1 ⟨rfl, b1⟩
  have HB1 := Lib.hid b1; clear b1
  go_wp2_with fail
  refine (left_c a 25 10 _ (HS.out.on HB1.out)).mono ?_
  rw [show leftOf 25 10 = (5, 0) from rfl, errA_zero]
  rintro e w2 ⟨rfl, b2⟩
  have HB2 := Lib.hid (HB1.out.trans (b2.mono HB1.out.size)); clear b2 HB1
  go_wp2_with fail
  refine (row_c a 3 2 _ (HS.out.on HB2.out)).mono ?_
  rw [show rowOf 3 2 = ([3, 4], 0) from rfl, errA_zero]
  rintro e w3 ⟨⟨v, rfl, hr⟩, b3⟩
  have HB3 := Lib.hid (HB2.out.trans (b3.mono HB2.out.size)); clear b3 HB2
  obtain ⟨ad, c, rfl, k⟩ := hr
  obtain ⟨ad, rfl, c1⟩ := k 1 4 rfl
  clear k
  rw [Addr.add, if_neg (by decide)] at c1
  go_wp2_with (go_at_call 16; refine (open_c _ _ _).mono ?_; rintro e w3 ⟨rfl, rfl⟩)


  go_ret
  exact ⟨rfl, HB3.out⟩
end Go.Proofs.YtlakabcbebahhaaDoor
