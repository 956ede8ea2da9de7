/- The walk of the law DealExact: whatever the orders, it returns true. Condition: the sentinels lie as the program's text lays them. -/
import Derived.Test.YtogmlbjbjgkdcaaDoorDlV
namespace Go.Proofs.YtogmlbjbjgkdcaaDoor
open Go Go.RowKit

set_option maxHeartbeats 6400000 in
set_option maxRecDepth 100000 in
theorem exact_any (s : Nat → Addr) (A : Option Addr) (c : Nat) (X : List Od) (w : World) (hs : Sent s w) (hX : BOdRow w w.heap.size A X) (_hl : X.length ≤ 9223372036854775807) :
    Calls Tryd.prog 3 #[.slice A X.length c] w fun e w' => e = .returned (.bool true) ∧ Below w.heap.size w w' := by
  have HS := Lib.hid hs
  have HX := Lib.hid hX
  clear hs hX
  go_enter Tryd.func3, Tryd.ntmps3
  go_wp2_with fail
  refine (awake_c s w HS.out).mono ?_
  rintro e w1 ⟨rfl, hb1⟩
  have B1 := Lib.hid hb1
  clear hb1
  go_wp2_with fail
  refine (new_c w1).mono ?_
  rintro e w2 ⟨rfl, t2, b2⟩
  obtain ⟨q, hq⟩ : ∃ q, w1.heap.size = q := ⟨_, rfl⟩
  rw [hq] at t2 ⊢
  go_upto_block 0 with fail
  obtain ⟨u, hu⟩ : ∃ u, w2.heap.size = u := ⟨_, rfl⟩
  have T0 : Hid (TwR w (w2.alloc (.cells #[.slice none 0 0, .int .i64 0] 29)) q q u u ⟨[], 0⟩ ⟨[], 0⟩) := Lib.hid (by
    have k1 : BkAt w w2 q q ⟨[], 0⟩ := ⟨t2, B1.out.trans (b2.mono B1.out.size), by rw [← hq]; exact B1.out.size⟩
    have hlt := t2.lt.1
    exact ⟨k1.alloc _, ⟨.slice none 0 0, by rw [← hu]; exact heap_alloc_new _ _, OwnE.nil _ _ _, rfl⟩, by omega, by omega, by omega, by omega, by rw [← hu]; exact k1.below.size⟩)
  try rw [hu]
  generalize w2.alloc (.cells #[.slice none 0 0, .int .i64 0] 29) = W0 at T0 ⊢
  clear t2 b2 hq hu B1
  go_cut [] (fun wx => Below w.heap.size w wx)
  case first =>
    go_wp2_with fail
    go_loopw [5] (fun I wr => ∃ (i R U : Nat) (b : RB), I = .int .i64 (i : Int) ∧ i ≤ 40 ∧ GB b ∧ b.came ≤ i ∧ TwR w wr q R u U b b) (fun I _ => 40 - (intOf I).toNat)
    case atStart => exact ⟨0, q, u, ⟨[], 0⟩, rfl, by omega, GB.empty, Nat.le_refl _, T0.out⟩
    case round =>
      obtain ⟨i, R, U, b, rfl, hi40, hgb, hcm, hT⟩ := hrel
      have HT := Lib.hid hT; have HG := Lib.hid hgb; have HCM := Lib.hid hcm
      clear hT hgb hcm T0
      by_cases hlt : i < X.length ∧ i < 40
      · obtain ⟨h1, h2⟩ := hlt
        obtain ⟨o, ho⟩ : ∃ o, X[i]? = some o := ⟨_, List.getElem?_eq_getElem h1⟩
        have hi0 : (0 : Int) ≤ (i : Int) := by omega
        have hi1 : (i : Int) < (X.length : Int) := by omega
        have hd1 : decide ((i : Int) < (X.length : Int)) = true := decide_eq_true hi1
        have hd2 : decide ((i : Int) < 40) = true := decide_eq_true (by omega)
        have HOX := Lib.hid ho
        clear ho
        go_upto_block 1 with fail
        refine wp_blk (bodyOf Tryd.f3 1) (by kernel_rfl) ?_
        refine exact_round _ _ _ _ _ _ _ _ _ _ _ _ _ _ _ _ _ _ _ _ _ _ _ _ _ _ _ _ _ _ _ _ _ _ _ _ _ _ _ _ _ _ _ _ _ _ _ _ _ _ _ _ _ _ _ _ _ _ _ _ _ _ _ _ _ _ _ _ _ _ _ _ _ _ _ _ _ _ _ _ _ _ _ _ _ _ _ _ _ _ _ _ _ _ _ _ _ _ _ _ _ _ _ _ _ _ _ _ _ _ _ _ _ _ _ _ _ _ _ _ _ _ _ _ _ _ _ _ _ _ _ _ _ _ _ _ _ _ _ _ _ _ _ _ _ _ _ _ _ _ _ _ _ _ _ _ _ _ _ _ _ _ _ _ _ _ _ _ _ _ _ _ _ _ _ _ _ _ _ _ _ _ _ _ _ _ _ _ s A c i X w q R u U b o _ wr HS.out HX.out HT.out HG.out HCM.out h2 HOX.out ?_
        intro _ _ _ _ _ _ _ _ _ _ _ _ _ _ _ _ _ _ _ _ _ _ _ _ _ _ _ _ _ _ _ _ _ _ _ _ _ _ _ _ _ _ _ _ _ _ _ _ _ _ _ _ _ _ _ _ _ _ _ _ _ _ _ _ _ _ _ _ _ _ _ _ _ _ _ _ _ _ _ _ _ _ _ _ _ _ _ _ _ _ _ _ _ _ _ _ _ _ _ _ _ _ _ _ _ _ _ _ _ _ _ _ _ _ _ _ _ _ _ _ _ _ _ _ _ _ _ _ _ _ _ _ _ _ _ _ _ _ _ _ _ _ _ _ _ _ _ _ _ _ _ _ _ _ _ _ _ _ _ _ w6 R' U' b' k1 k2 k3
        have K1 := Lib.hid k1; have K2 := Lib.hid k2; have K3 := Lib.hid k3
        clear k1 k2 k3 hd1 hd2
        go_wp2_with fail
        go_roundw
        case rel => exact ⟨i + 1, R', U', b', by go_num, by omega, K2.out, by have := K3.out; omega, K1.out⟩
        case measure => simp [intOf]; omega
      · have hdd : ¬ ((i : Int) < (X.length : Int)) ∨ ((i : Int) < (X.length : Int) ∧ ¬ (i : Int) < 40) := by omega
        clear hlt
        rcases hdd with hd | ⟨hd, hd40⟩
        · have hd1 : decide ((i : Int) < (X.length : Int)) = false := decide_eq_false hd
          go_wp2_with fail
          go_meet
          exact HT.out.bk.below
        · have hd1 : decide ((i : Int) < (X.length : Int)) = true := decide_eq_true hd
          have hd2 : decide ((i : Int) < 40) = false := decide_eq_false hd40
          go_wp2_with fail
          go_meet
          exact HT.out.bk.below
  case rest =>
    have HBc := Lib.hid hcut
    have HMN := Lib.hid (match_nil s ⟨1, 0, false, 1, 1, 0⟩ wc (HS.out.below hcut (Nat.le_refl _)))
    clear hcut T0
    go_wp2_with fail
    refine HMN.out.mono ?_
    rintro e w7 ⟨rfl, b7⟩
    have HB7 := Lib.hid (HBc.out.trans (b7.mono HBc.out.size))
    clear b7 HMN HBc
    have HKN := Lib.hid (kind_errV s 2 w7 (HS.out.below HB7.out (Nat.le_refl _)) (by omega))
    go_wp2_with fail
    refine HKN.out.mono ?_
    rintro e w8 ⟨rfl, b8⟩
    have HB8 := Lib.hid (HB7.out.trans (b8.mono HB7.out.size))
    clear b8 HKN HB7
    go_wp2_with fail
    go_ret
    exact ⟨rfl, HB8.out⟩
end Go.Proofs.YtogmlbjbjgkdcaaDoor
