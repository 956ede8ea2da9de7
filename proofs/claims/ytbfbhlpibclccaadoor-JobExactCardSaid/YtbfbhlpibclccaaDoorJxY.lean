/- The walk of the law JobExact: whatever the deeds, it returns true. Condition: the sentinels lie as the program's text lays them. -/
import Derived.Test.YtbfbhlpibclccaaDoorJxZr
import Derived.Test.YtbfbhlpibclccaaDoorJxZn
import Derived.Test.YtbfbhlpibclccaaDoorJxS
import Derived.Test.YtbfbhlpibclccaaDoorJbY
import Derived.Test.YtbfbhlpibclccaaDoorRgC
import Derived.Deep.DeepCutAuto
import Derived.Deep.CutBlock
import Derived.Deep.RegionHeld3
import Derived.Deep.QuietTactic
import Derived.StillTailTactics
namespace Go.Proofs.YtbfbhlpibclccaaDoor
open Go Go.RowKit Go.Maps Go.Sort

set_option maxHeartbeats 6400000 in
set_option maxRecDepth 100000 in
theorem jexact_any (s : Nat → Addr) (A : Option Addr) (c : Nat) (X : List AcJ) (w : World) (hs : Sent s w) (hr : ReadsE encAcJ w A X) (hX : ∀ x ∈ X, GoodAcJ x) (hll : X.length ≤ 9223372036854775807) :
    Calls Tryd.prog 3 #[.slice A X.length c] w fun e w' => e = .returned (.bool true) ∧ Below w.heap.size w w' := by
  have HS := Lib.hid hs
  have HX := Lib.hid hX
  have HR : Hid (∀ W, Below w.heap.size w W → ReadsE encAcJ W A X) := Lib.hid fun W hb => hr.on hb
  have HLL := Lib.hid hll
  clear hs hr hX hll
  go_enter Tryd.func3, Tryd.ntmps3
  go_wp2_with fail
  refine (awake18_c s w HS.out).mono ?_
  rintro e w0 ⟨rfl, b0⟩
  have HB0 := Lib.hid b0
  clear b0
  go_wp2_with fail
  refine (jx_new HB0.out).mono ?_
  rintro e w1 ⟨q, rfl, h1⟩
  obtain ⟨u, hu⟩ : ∃ u, w1.heap.size = u := ⟨_, rfl⟩
  obtain ⟨W2, hW2⟩ : ∃ W2, w1.alloc (.cells #[.slice none 0 0] 29) = W2 := ⟨_, rfl⟩
  have h2 : JY w W2 q u [] [] (fun _ => True) := by rw [← hW2, ← hu]; exact h1.toJY
  have H2 := Lib.hid h2
  have HW2 := Lib.hid hW2
  have HU := Lib.hid hu
  clear h1 h2 HB0 hW2 hu
  go_upto_region 5 with fail
  rw [HW2.out, HU.out]
  go_upto_block 0 with fail
  go_cut [] (fun wx => ∃ L : List JE, JY w wx q u L L (fun _ => True))
  case first =>
    go_wp2_with fail
    go_loopw [5] (fun v wr => ∃ (i : Nat) (L : List JE), i ≤ 60 ∧ v = .int .i64 (i : Int) ∧ JY w wr q u L L (fun _ => True)) (fun v _ => 60 - natJ v)
    case atStart => exact ⟨0, [], by omega, rfl, H2.out⟩
    case round =>
      obtain ⟨i, L, hi60, rfl, hK⟩ := hrel
      have HK := Lib.hid hK
      clear hK H2
      by_cases hlt : i < X.length ∧ i < 60
      · obtain ⟨h1, h2⟩ := hlt
        obtain ⟨x, hx⟩ : ∃ x, X[i]? = some x := ⟨_, List.getElem?_eq_getElem h1⟩
        have hi0 : (0 : Int) ≤ (i : Int) := by omega
        have hi1 : (i : Int) < (X.length : Int) := by omega
        have hd1 : decide ((i : Int) < (X.length : Int)) = true := decide_eq_true hi1
        have hd2 : decide ((i : Int) < 60) = true := decide_eq_true (by omega)
        have hw1 : wrap64 ((i : Int) + 1) = ((i + 1 : Nat) : Int) := by unfold wrap64; omega
        have HXX := Lib.hid hx
        clear hx
        go_upto_block 1 with fail
        refine wp_blk (bodyOf Tryd.f3 1) (by kernel_rfl) ?_
        refine job18_round _ _ _ _ _ _ _ _ _ _ _ _ _ _ _ _ _ _ _ _ _ _ _ _ _ _ _ _ _ _ _ _ _ _ _ _ _ _ _ _ _ _ _ _ _ _ _ _ _ _ _ _ _ _ _ _ _ _ _ _ _ _ _ _ _ _ _ _ _ _ _ _ _ _ _ _ _ _ _ _ _ _ _ _ _ _ _ _ _ _ _ _ _ _ _ _ _ _ _ _ _ _ _ _ _ _ _ _ _ _ _ _ _ _ _ _ _ _ _ _ _ _ _ _ _ _ _ _ _ _ _ _ _ _ _ _ _ _ _ _ _ _ _ _ _ _ _ _ _ _ _ _ _ _ _ _ _ _ _ _ _ _ _ _ _ _ _ _ _ _ _ _ _ _ _ _ _ _ _ _ _ _ _ _ _ _ _ _ _ _ _ _ _ _ _ _ _ _ _ _ _ _ _ _ _ _ _ _ _ _ _ _ _ _ _ _ _ _ _ _ _ _ _ _ _ _ _ _ _ _ _ _ _ _ _ _ _ _ _ _ _ _ _ _ _ _ _ _ _ _ _ _ _ _ _ _ _ _ _ _ _ _ _ _ _ _ _ _ _ _ _ _ _ _ _ _ _ _ _ s A c i X w q u L x _ wr HS.out (HR.out _ HK.out.below) HK.out HXX.out (HX.out x (List.mem_of_getElem? HXX.out)) ?_
        intro _ _ _ _ _ _ _ _ _ _ _ _ _ _ _ _ _ _ _ _ _ _ _ _ _ _ _ _ _ _ _ _ _ _ _ _ _ _ _ _ _ _ _ _ _ _ _ _ _ _ _ _ _ _ _ _ _ _ _ _ _ _ _ _ _ _ _ _ _ _ _ _ _ _ _ _ _ _ _ _ _ _ _ _ _ _ _ _ _ _ _ _ _ _ _ _ _ _ _ _ _ _ _ _ _ _ _ _ _ _ _ _ _ _ _ _ _ _ _ _ _ _ _ _ _ _ _ _ _ _ _ _ _ _ _ _ _ _ _ _ _ _ _ _ _ _ _ _ _ _ _ _ _ _ _ _ _ _ _ _ _ _ _ _ _ _ _ _ _ _ _ _ _ _ w6 L' k1
        have K1 := Lib.hid k1
        clear k1 hd1 hd2
        go_wp2_with fail
        go_roundw
        case rel => exact ⟨i + 1, L', by omega, by first | (rw [← hw1]; done) | (rw [← hw1]; first | rfl | (congr 1; omega)), K1.out⟩
        case measure => simp [natJ] <;> omega
      · have hdd : ¬ ((i : Int) < (X.length : Int)) ∨ ((i : Int) < (X.length : Int) ∧ ¬ (i : Int) < 60) := by omega
        clear hlt
        rcases hdd with hd | ⟨hd, hd60⟩
        · have hd1 : decide ((i : Int) < (X.length : Int)) = false := decide_eq_false hd
          go_wp2_with fail
          go_meet
          exact ⟨L, HK.out⟩
        · have hd1 : decide ((i : Int) < (X.length : Int)) = true := decide_eq_true hd
          have hd2 : decide ((i : Int) < 60) = false := decide_eq_false hd60
          go_wp2_with fail
          go_meet
          exact ⟨L, HK.out⟩
  case rest =>
    obtain ⟨L, hK⟩ := hcut
    have HK := Lib.hid hK
    clear hK H2 HX HR HLL
    go_wp2_with fail
    refine HK.out.jobs_c.mono ?_
    rintro e w3 ⟨A3, c3, rfl, k3⟩
    obtain ⟨N, hN⟩ : ∃ N, L.length = N := ⟨_, rfl⟩
    rw [hN] at k3 ⊢
    have HNN := Lib.hid hN
    have HK3 : Hid (JY w w3 q u L L (fun _ => True)) := Lib.hid (k3.drop fun _ _ => trivial)
    have HROW := Lib.hid k3.has.2
    obtain ⟨v0, hr0⟩ := k3.ref
    obtain ⟨A2, c2, -, z0, -⟩ := hr0.at
    rw [hN] at z0
    have hn32 : N ≤ 32 := by rw [← hN]; exact k3.goodL.few
    have hNN : ((N : Int) != (N : Int)) = false := by simp
    clear hN k3 HK hr0
    go_upto_region 32 with fail
    clear z0 hNN
    go_wp2_with fail
    go_loopw [15] (fun v wr => ∃ j : Nat, j ≤ N ∧ v = .int .i64 (j : Int) ∧ Below w3.heap.size w3 wr) (fun v _ => N - natJ v)
    case atStart => exact ⟨0, Nat.zero_le _, rfl, Below.refl _ _⟩
    case round =>
      obtain ⟨j, hj, rfl, hb⟩ := hrel
      have HB := Lib.hid hb
      clear hb
      by_cases hjn : j < N
      · have hj1 : (j : Int) < (N : Int) := by omega
        have hw1 : wrap64 ((j : Int) + 1) = ((j + 1 : Nat) : Int) := by unfold wrap64; omega
        obtain ⟨e, he⟩ : ∃ e, L[j]? = some e := ⟨_, List.getElem?_eq_getElem (by rw [HNN.out]; exact hjn)⟩
        have hrow := HROW.out.on HB.out
        obtain ⟨ad, -, hA, -⟩ := hrow.at (i := j) (x := e.job) (by rw [List.getElem?_map, he]; rfl)
        subst hA
        obtain ⟨v1, hr1⟩ := (HK3.out.on HB.out).ref
        have HE := Lib.hid he; have HRO := Lib.hid hrow; have HR1 := Lib.hid hr1
        clear he hrow hr1
        go_upto_region 35 with fail
        refine wp_reg (opsOf Tryd.f3 35) (by kernel_rfl) ?_
        refine jx35 _ _ _ _ _ _ _ _ _ _ _ _ _ _ _ _ _ _ _ _ _ _ _ _ _ _ _ _ _ _ _ _ _ _ _ _ _ _ _ _ _ _ _ _ _ _ _ _ _ _ _ _ _ _ _ _ _ _ _ _ _ _ _ _ _ _ _ _ _ _ _ _ _ _ _ _ _ _ _ _ _ _ _ _ _ _ _ _ _ _ _ _ _ _ _ _ _ _ _ _ _ _ _ _ _ _ _ _ _ _ _ _ _ _ _ _ _ _ _ _ _ _ _ _ _ _ _ _ _ _ _ _ _ _ _ _ _ _ _ _ _ _ _ _ _ _ _ _ _ _ _ _ _ _ _ _ _ _ _ _ _ _ _ _ _ _ _ _ _ _ _ _ _ _ _ _ _ _ _ _ _ _ _ _ _ _ _ _ _ _ _ _ _ _ _ _ _ _ _ _ _ _ _ _ _ _ _ _ _ _ _ _ _ _ _ _ _ _ _ _ _ _ _ _ _ _ _ _ _ _ _ _ _ _ _ _ _ _ _ _ _ _ _ _ _ _ _ _ _ _ _ _ _ _ _ _ _ _ _ _ _ _ _ _ _ _ _ _ _ _ _ _ _ _ _ _ _ _ _ _ u j _ N c3 ad v1 L e _ wr HNN.out HRO.out HR1.out HE.out ?_
        intro _ _ _ _ _ _ _ _ _ _ _ _ w5 b5
        have HB5 := Lib.hid (HB.out.trans (b5.mono HB.out.size))
        clear b5
        go_wp2_with fail
        go_roundw
        case rel => exact ⟨j + 1, by omega, by first | (rw [← hw1]; done) | (rw [← hw1]; first | rfl | (congr 1; omega)), HB5.out⟩
        case measure => simp [natJ] <;> omega
      · obtain rfl : j = N := by omega
        have HB9 := Lib.hid ((HK3.out.on HB.out).below)
        have i1 : i64 1 := by unfold i64; omega
        clear HROW
        go_wp2_with fail
        refine (jof_nil wr i1).mono ?_
        rintro e w10 ⟨rfl, b10⟩
        have HB10 := Lib.hid (HB9.out.trans (b10.mono HB9.out.size))
        clear b10 HB9 HB
        go_upto_region 39 with fail
        refine wp_reg (opsOf Tryd.f3 39) (by kernel_rfl) ?_
        refine jx39 _ _ _ _ _ _ _ _ _ _ _ _ _ _ _ _ _ _ _ _ _ _ _ _ _ _ _ _ _ _ _ _ _ _ _ _ _ _ _ _ _ _ _ _ _ _ _ _ _ _ _ _ _ _ _ _ _ _ _ _ _ _ _ _ _ _ _ _ _ _ _ _ _ _ _ _ _ _ _ _ _ _ _ _ _ _ _ _ _ _ _ _ _ _ _ _ _ _ _ _ _ _ _ _ _ _ _ _ _ _ _ _ _ _ _ _ _ _ _ _ _ _ _ _ _ _ _ _ _ _ _ _ _ _ _ _ _ _ _ _ _ _ _ _ _ _ _ _ _ _ _ _ _ _ _ _ _ _ _ _ _ _ _ _ _ _ _ _ _ _ _ _ _ _ _ _ _ _ _ _ _ _ _ _ _ _ _ _ _ _ _ _ _ _ _ _ _ _ _ _ _ _ _ _ _ _ _ _ _ _ _ _ _ _ _ _ _ _ _ _ _ _ _ _ _ _ _ _ _ _ _ _ _ _ _ _ _ _ _ _ _ _ _ _ _ _ _ _ _ _ _ _ _ _ _ _ _ _ _ _ _ _ _ _ _ _ _ _ _ _ _ _ _ _ _ _ _ _ _ _ _ s _ _ (HS.out.below (HB10.out.alloc HB10.out.size _) (Nat.le_refl _)) ?_
        intro _ _ _ _ _ _ _ _ _ _ _ _ _ _ _ _ _ _ _ _ _ _ _ _ _ _ _ _ _ _ _ _ _ _ _ _ _ _ _ _ _ _ _ _ _ _ _ _ _ w25 b25
        have HB25 := Lib.hid ((HB10.out.alloc HB10.out.size _).trans (b25.mono (HB10.out.alloc HB10.out.size _).size))
        clear b25
        go_wp2_with fail
        go_ret
        exact ⟨rfl, HB25.out⟩
end Go.Proofs.YtbfbhlpibclccaaDoor
