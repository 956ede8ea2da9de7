/- The walk of the law AllocExact: whatever the deeds, it returns true. Condition: the sentinels lie as the program's text lays them. -/
import Derived.Test.YtbdnfppbiplpmaaDoorAxYe
import Derived.Test.YtbdnfppbiplpmaaDoorRgC
import Derived.Deep.DeepCutAuto
import Derived.Deep.CutBlock
import Derived.Deep.RegionHeld3
import Derived.Deep.QuietTactic
import Derived.StillTailTactics
namespace Go.Proofs.YtbdnfppbiplpmaaDoor
open Go Go.RowKit Go.Maps Go.Sort

set_option maxHeartbeats 6400000 in
set_option maxRecDepth 100000 in
theorem aexact_any (s : Nat → Addr) (A : Option Addr) (c : Nat) (X : List AcA) (w : World) (hs : Sent s w) (hr : ReadsE encAcA w A X) (hX : ∀ x ∈ X, GoodAcA x) (hll : X.length ≤ 9223372036854775807) :
    Calls Tryd.prog 3 #[.slice A X.length c] w fun e w' => e = .returned (.bool true) ∧ Below w.heap.size w w' := by
  have HS := Lib.hid hs
  have HX := Lib.hid hX
  have HR : Hid (∀ W, Below w.heap.size w W → ReadsE encAcA W A X) := Lib.hid fun W hb => hr.on hb
  have HLL := Lib.hid hll
  clear hs hr hX hll
  go_enter Tryd.func3, Tryd.ntmps3
  go_wp2_with fail
  refine (awake17_c s w HS.out).mono ?_
  rintro e w0 ⟨rfl, b0⟩
  have HB0 := Lib.hid b0
  clear b0
  go_wp2_with fail
  refine (ax_new HB0.out).mono ?_
  rintro e w1 ⟨q, P0, rfl, h1⟩
  obtain ⟨u, hu⟩ : ∃ u, w1.heap.size = u := ⟨_, rfl⟩
  obtain ⟨W2, hW2⟩ : ∃ W2, w1.alloc (.cells #[.slice none 0 0, .slice none 0 0] 30) = W2 := ⟨_, rfl⟩
  have h2 : AX w W2 q u ⟨[], []⟩ ⟨[], []⟩ (fun _ => True) := by rw [← hW2, ← hu]; exact AX.begin h1
  have H2 := Lib.hid h2
  have HW2 := Lib.hid hW2
  have HU := Lib.hid hu
  clear h1 h2 HB0 hW2 hu
  go_upto_region 5 with fail
  rw [HW2.out, HU.out]
  go_upto_block 0 with fail
  go_cut [] (fun wx => ∃ G : AG, AX w wx q u G G (fun _ => True))
  case first =>
    go_wp2_with fail
    go_loopw [5] (fun v wr => ∃ (i : Nat) (G : AG), i ≤ 60 ∧ v = .int .i64 (i : Int) ∧ G.tasks.length ≤ i ∧ AX w wr q u G G (fun _ => True)) (fun v _ => 60 - natOf v)
    case atStart => exact ⟨0, ⟨[], []⟩, by omega, rfl, Nat.zero_le _, H2.out⟩
    case round =>
      obtain ⟨i, G, hi60, rfl, hn, hK⟩ := hrel
      have HK := Lib.hid hK
      have HN := Lib.hid hn
      clear hK hn H2
      by_cases hlt : i < X.length ∧ i < 60
      · obtain ⟨h1, h2⟩ := hlt
        obtain ⟨x, hx⟩ : ∃ x, X[i]? = some x := ⟨_, List.getElem?_eq_getElem h1⟩
        have hi0 : (0 : Int) ≤ (i : Int) := by omega
        have hi1 : (i : Int) < (X.length : Int) := by omega
        have hd1 : decide ((i : Int) < (X.length : Int)) = true := decide_eq_true hi1
        have hd2 : decide ((i : Int) < 60) = true := decide_eq_true (by omega)
        have hw1 : wrap64 ((i : Int) + 1) = ((i + 1 : Nat) : Int) := by unfold wrap64; omega
        have HXX := Lib.hid hx
        clear hx
        go_upto_block 1 with fail
        refine wp_blk (bodyOf Tryd.f3 1) (by kernel_rfl) ?_
        refine exact17_round _ _ _ _ _ _ _ _ _ _ _ _ _ _ _ _ _ _ _ _ _ _ _ _ _ _ _ _ _ _ _ _ _ _ _ _ _ _ _ _ _ _ _ _ _ _ _ _ _ _ _ _ _ _ _ _ _ _ _ _ _ _ _ _ _ _ _ _ _ _ _ _ _ _ _ _ _ _ _ _ _ _ _ _ _ _ _ _ _ _ _ _ _ _ _ _ _ _ _ _ _ _ _ _ _ _ _ _ _ _ _ _ _ _ _ _ _ _ _ _ _ _ _ _ _ _ _ _ _ _ _ _ _ _ _ _ _ _ _ _ _ _ _ _ _ _ _ _ _ _ _ _ _ _ _ _ _ _ _ _ _ _ _ _ _ _ _ _ _ _ _ _ _ _ _ _ _ _ _ _ _ _ _ _ _ _ _ _ _ _ _ _ _ _ _ _ _ _ _ _ _ _ _ _ _ _ _ _ _ _ _ _ _ _ _ _ _ _ _ _ _ _ _ _ _ _ _ _ _ _ _ _ _ _ _ _ _ _ _ _ _ _ _ _ _ _ _ _ _ _ _ _ _ _ _ _ _ _ _ _ _ _ _ _ _ _ _ _ _ _ _ _ _ _ _ _ _ _ _ _ _ _ _ _ _ _ _ _ _ _ _ _ _ _ _ _ _ _ _ _ _ _ _ _ _ _ _ _ _ _ _ _ _ _ _ _ _ _ _ _ _ _ _ _ _ _ _ _ _ _ _ _ _ _ _ _ _ _ _ _ _ _ _ _ _ _ _ _ _ _ _ _ _ _ _ _ _ _ _ _ _ _ _ _ _ _ _ _ _ _ _ _ _ _ _ _ _ _ _ _ _ _ _ _ _ _ _ _ _ _ _ _ _ _ s A c i X w q u G x _ wr HS.out (HR.out _ HK.out.below) HK.out HXX.out (HX.out x (List.mem_of_getElem? HXX.out)) (by have := HN.out; omega) ?_
        intro _ _ _ _ _ _ _ _ _ _ _ _ _ _ _ _ _ _ _ _ _ _ _ _ _ _ _ _ _ _ _ _ _ _ _ _ _ _ _ _ _ _ _ _ _ _ _ _ _ _ _ _ _ _ _ _ _ _ _ _ _ _ _ _ _ _ _ _ _ _ _ _ _ _ _ _ _ _ _ _ _ _ _ _ _ _ _ _ _ _ _ _ _ _ _ _ _ _ _ _ _ _ _ _ _ _ _ _ _ _ _ _ _ _ _ _ _ _ _ _ _ _ _ _ _ _ _ _ _ _ _ _ _ _ _ _ _ _ _ _ _ _ _ _ _ _ _ _ _ _ _ _ _ _ _ _ _ _ _ _ _ _ _ _ _ _ _ _ _ _ _ _ _ _ _ _ _ _ _ _ _ _ _ _ _ _ _ _ _ _ _ _ _ _ _ _ _ _ _ _ _ _ _ _ _ _ _ _ _ _ _ _ _ _ _ _ _ _ _ _ _ _ _ _ _ _ _ _ _ _ _ _ _ _ _ _ _ _ _ _ _ _ _ _ _ _ _ _ _ _ _ _ _ _ _ _ _ _ _ _ _ _ w6 G' k1 hl
        have K1 := Lib.hid k1
        have HL := Lib.hid hl
        clear k1 hl hd1 hd2
        go_wp2_with fail
        go_roundw
        case rel => exact ⟨i + 1, G', by omega, by rw [← hw1]; first | rfl | (congr 1; omega), by have := HL.out; have := HN.out; omega, K1.out⟩
        case measure => simp [natOf]; omega
      · have hdd : ¬ ((i : Int) < (X.length : Int)) ∨ ((i : Int) < (X.length : Int) ∧ ¬ (i : Int) < 60) := by omega
        clear hlt
        rcases hdd with hd | ⟨hd, hd60⟩
        · have hd1 : decide ((i : Int) < (X.length : Int)) = false := decide_eq_false hd
          go_wp2_with fail
          go_meet
          exact ⟨G, HK.out⟩
        · have hd1 : decide ((i : Int) < (X.length : Int)) = true := decide_eq_true hd
          have hd2 : decide ((i : Int) < 60) = false := decide_eq_false hd60
          go_wp2_with fail
          go_meet
          exact ⟨G, HK.out⟩
  case rest =>
    obtain ⟨G, hK⟩ := hcut
    have HK := Lib.hid hK
    clear hK H2
    go_wp2_with fail
    refine HK.out.sets_c.mono ?_
    rintro e w3 ⟨v, rfl, hv, hk⟩
    obtain ⟨a, cc, rfl, hrow⟩ := IOwn.ri hv
    obtain ⟨n, hn⟩ : ∃ n, (setsOf G).length = n := ⟨_, rfl⟩
    rw [hn]
    have HNN := Lib.hid hn
    have HRW : Hid (∀ W, Below w3.heap.size w3 W → ∀ (i : Nat) (z : Int), (setsOf G)[i]? = some z → ∃ ad, a = some ad ∧ W.cell? (ad.add i) = some (.int .i64 z)) := Lib.hid fun W hb i z hz => by
      obtain ⟨ad, e1, e2⟩ := hrow i z hz
      exact ⟨ad, e1, (hb.cell (p := ad.add i) (lt_of_cell e2)).trans e2⟩
    have HK3 := Lib.hid hk
    have HGA := Lib.hid hk.goodG
    have hn8 : n ≤ 8 := by rw [← hn, setsOf_len]; exact hk.goodG.few
    clear hv hrow hn hk HK
    go_wp2_with fail
    go_loopw [20] (fun v wr => ∃ j : Nat, j ≤ n ∧ v = .int .i64 (j : Int) ∧ Below w3.heap.size w3 wr) (fun v _ => n - natOf v)
    case atStart => exact ⟨0, Nat.zero_le _, rfl, Below.refl _ _⟩
    case round =>
      obtain ⟨j, hj, rfl, hb⟩ := hrel
      have HB := Lib.hid hb
      clear hb
      by_cases hjn : j < n
      · have hj1 : (j : Int) < (n : Int) := by omega
        have hw1 : wrap64 ((j : Int) + 1) = ((j + 1 : Nat) : Int) := by unfold wrap64; omega
        obtain ⟨z, hz⟩ : ∃ z, (setsOf G)[j]? = some z := ⟨_, List.getElem?_eq_getElem (by rw [HNN.out]; exact hjn)⟩
        obtain ⟨ad, e1, hcz⟩ := HRW.out wr HB.out j z hz
        subst e1
        have HPZ := Lib.hid (setsOf_pos HGA.out (List.mem_of_getElem? hz))
        have HCZ := Lib.hid hcz
        have HY : Hid (j ≠ 0 → ∃ y, wr.cell? (ad.add (j - 1)) = some (.int .i64 y) ∧ y < z) := Lib.hid fun h0 => by
          obtain ⟨y, hy⟩ : ∃ y, (setsOf G)[j - 1]? = some y := ⟨_, List.getElem?_eq_getElem (by rw [HNN.out]; omega)⟩
          obtain ⟨ad', e1, hcy⟩ := HRW.out wr HB.out (j - 1) y hy
          obtain rfl := Option.some.inj e1
          refine ⟨y, hcy, ?_⟩
          obtain ⟨p1, p2⟩ := List.getElem?_eq_some_iff.1 hy
          obtain ⟨p3, p4⟩ := List.getElem?_eq_some_iff.1 hz
          have := List.pairwise_iff_getElem.1 (setsOf_lt HGA.out) (j - 1) j p1 p3 (by omega)
          rw [p2, p4] at this; exact this
        clear hz hcz
        go_upto_region 54 with fail
        refine wp_reg (opsOf Tryd.f3 54) (by kernel_rfl) ?_
        refine ax54 _ _ _ _ _ _ _ _ _ _ _ _ _ _ _ _ _ _ _ _ _ _ _ _ _ _ _ _ _ _ _ _ _ _ _ _ _ _ _ _ _ _ _ _ _ _ _ _ _ _ _ _ _ _ _ _ _ _ _ _ _ _ _ _ _ _ _ _ _ _ _ _ _ _ _ _ _ _ _ _ _ _ _ _ _ _ _ _ _ _ _ _ _ _ _ _ _ _ _ _ _ _ _ _ _ _ _ _ _ _ _ _ _ _ _ _ _ _ _ _ _ _ _ _ _ _ _ _ _ _ _ _ _ _ _ _ _ _ _ _ _ _ _ _ _ _ _ _ _ _ _ _ _ _ _ _ _ _ _ _ _ _ _ _ _ _ _ _ _ _ _ _ _ _ _ _ _ _ _ _ _ _ _ _ _ _ _ _ _ _ _ _ _ _ _ _ _ _ _ _ _ _ _ _ _ _ _ _ _ _ _ _ _ _ _ _ _ _ _ _ _ _ _ _ _ _ _ _ _ _ _ _ _ _ _ _ _ _ _ _ _ _ _ _ _ _ _ _ _ _ _ _ _ _ _ _ _ _ _ _ _ _ _ _ _ _ _ _ _ _ _ _ _ _ _ _ _ _ _ _ _ _ _ _ _ _ _ _ _ _ _ _ _ _ _ _ _ _ _ _ _ _ _ _ _ _ _ _ _ _ _ _ _ _ _ _ _ _ _ _ _ _ _ _ _ _ _ _ _ _ _ _ _ _ _ _ _ _ _ _ _ _ _ _ _ _ _ _ _ _ _ _ _ _ _ _ _ _ _ _ _ _ _ _ _ _ _ _ _ _ _ _ _ _ _ _ _ _ _ _ _ _ _ _ _ _ _ _ _ _ _ _ _ _ _ w q u j n cc G ad z _ _ wr (HK3.out.on HB.out) HPZ.out hjn (by rw [← HNN.out, setsOf_len]; exact HGA.out.few) HCZ.out HY.out ?_
        intro _ _ _ _ _ _ _ _ _ _ _ _ _ _ _ _ _ _ _ _ _ _ w5 b5
        have HB5 := Lib.hid (HB.out.trans (b5.mono HB.out.size))
        clear b5
        go_wp2_with fail
        go_roundw
        case rel => exact ⟨j + 1, by omega, by rw [← hw1]; first | rfl | (congr 1; omega), HB5.out⟩
        case measure => simp [natOf] <;> omega
      · obtain rfl : j = n := by omega
        have HK4 := Lib.hid (HK3.out.on HB.out)
        obtain ⟨A2, c2, k1, -⟩ := HK4.out.setAt
        have hnl : G.sets.length = j := by rw [← setsOf_len, HNN.out]
        rw [hnl] at k1
        have HK1 : Hid (∀ W, Below wr.heap.size wr W → W.cell? ⟨u, 0, none⟩ = some (.slice A2 j c2)) := Lib.hid fun W hb => (hb.cell (p := ⟨u, 0, none⟩) (lt_of_cell k1)).trans k1
        have HB9 := Lib.hid HK4.out.below
        clear hnl k1
        have i1 : i64 1 := by unfold i64; omega
        have i0 : i64 0 := by unfold i64; omega
        have it : okT ⟨0, 0⟩ := ⟨i0, i0⟩
        go_wp2_with fail
        refine (afall_nil s wr (HS.out.below HB9.out (Nat.le_refl _)) 1 0).mono ?_
        rintro e w10 ⟨rfl, b10⟩
        have HB10 := Lib.hid (HB9.out.trans (b10.mono HB9.out.size))
        have HC10 := Lib.hid b10
        clear b10 HB9
        go_wp2_with fail
        refine (awhere_nil w10 it).mono ?_
        rintro e w11 ⟨rfl, b11⟩
        have HB11 := Lib.hid (HB10.out.trans (b11.mono HB10.out.size))
        have k1 := HK1.out w11 (HC10.out.trans (b11.mono HC10.out.size))
        clear b11 HB10 HC10 HK1
        have HS11 := Lib.hid (HS.out.below HB11.out (Nat.le_refl _))
        go_upto_region 59 with fail
        refine wp_reg (opsOf Tryd.f3 59) (by kernel_rfl) ?_
        refine ax59 _ _ _ _ _ _ _ _ _ _ _ _ _ _ _ _ _ _ _ _ _ _ _ _ _ _ _ _ _ _ _ _ _ _ _ _ _ _ _ _ _ _ _ _ _ _ _ _ _ _ _ _ _ _ _ _ _ _ _ _ _ _ _ _ _ _ _ _ _ _ _ _ _ _ _ _ _ _ _ _ _ _ _ _ _ _ _ _ _ _ _ _ _ _ _ _ _ _ _ _ _ _ _ _ _ _ _ _ _ _ _ _ _ _ _ _ _ _ _ _ _ _ _ _ _ _ _ _ _ _ _ _ _ _ _ _ _ _ _ _ _ _ _ _ _ _ _ _ _ _ _ _ _ _ _ _ _ _ _ _ _ _ _ _ _ _ _ _ _ _ _ _ _ _ _ _ _ _ _ _ _ _ _ _ _ _ _ _ _ _ _ _ _ _ _ _ _ _ _ _ _ _ _ _ _ _ _ _ _ _ _ _ _ _ _ _ _ _ _ _ _ _ _ _ _ _ _ _ _ _ _ _ _ _ _ _ _ _ _ _ _ _ _ _ _ _ _ _ _ _ _ _ _ _ _ _ _ _ _ _ _ _ _ _ _ _ _ _ _ _ _ _ _ _ _ _ _ _ _ _ _ _ _ _ _ _ _ _ _ _ _ _ _ _ _ _ _ _ _ _ _ _ _ _ _ _ _ _ _ _ _ _ _ _ _ _ _ _ _ _ _ _ _ _ _ _ _ _ _ _ _ _ _ _ _ _ _ _ _ _ _ _ _ _ _ _ _ _ _ _ _ _ _ _ _ _ _ _ _ _ _ _ _ _ _ _ _ _ _ _ _ _ _ _ _ _ _ _ _ _ _ _ _ _ _ _ _ _ _ _ _ _ _ s u j cc c2 _ A2 _ w11 HS11.out k1 ?_
        intro _ _ _ _ _ _ _ _ _ _ _ _ _ _ _ _ _ _ _ _ _ _ _ _ _ _ _ _ _ _ _ _ _ _ _ _ _ _ _ _ _ _ _ _ _ _ _ _ _ _ _ _ _ _ _ _ _ _ _ _ _ _ _ _ _ w25 b25
        have HB25 := Lib.hid (HB11.out.trans (b25.mono HB11.out.size))
        clear b25
        go_wp2_with fail
        go_ret
        exact ⟨rfl, HB25.out⟩
end Go.Proofs.YtbdnfppbiplpmaaDoor
