/- The walk of the law DealFair: whatever the orders, it returns true. Condition: the sentinels lie as the program's text lays them. -/
import Derived.Test.YtcihghkiidkcnaaDoorDlJ
namespace Go.Proofs.YtcihghkiidkcnaaDoor
open Go Go.RowKit

set_option maxHeartbeats 6400000 in
set_option maxRecDepth 100000 in
theorem fair_any (s : Nat → Addr) (A : Option Addr) (c : Nat) (X : List Od) (w : World) (hs : Sent s w) (hX : BOdRow w w.heap.size A X) (_hl : X.length ≤ 9223372036854775807) :
    Calls Tryd.prog 3 #[.slice A X.length c] w fun e w' => e = .returned (.bool true) ∧ Below w.heap.size w w' := by
  have HS := Lib.hid hs
  have HX := Lib.hid hX
  clear hs hX
  go_enter Tryd.func3, Tryd.ntmps3
  go_wp2_with fail
  refine (awake_c s w HS.out).mono ?_
  rintro e w1 ⟨rfl, hb1⟩
  have B1 := Lib.hid hb1
  clear hb1
  go_wp2_with fail
  refine (new_c w1).mono ?_
  rintro e w2 ⟨rfl, t2, b2⟩
  obtain ⟨q, hq⟩ : ∃ q, w1.heap.size = q := ⟨_, rfl⟩
  rw [hq] at t2 ⊢
  have K2 : Hid (BkAt w w2 q q ⟨[], 0⟩) := Lib.hid ⟨t2, B1.out.trans (b2.mono B1.out.size), by rw [← hq]; exact B1.out.size⟩
  clear t2 b2 hq B1
  go_upto_block 0 with fail
  go_cut [] (fun wx => Below w.heap.size w wx)
  case first =>
    go_wp2_with fail
    go_loopw [4] (fun u wr => ∃ (i R : Nat) (b : RB), i ≤ 40 ∧ u = .int .i64 (i : Int) ∧ BkAt w wr q R b ∧ GB b ∧ b.came ≤ i ∧ NoMeet b.L) (fun u _ => 40 - (intOf u).toNat)
    case atStart => exact ⟨0, q, ⟨[], 0⟩, by omega, rfl, K2.out, GB.empty, Nat.le_refl _, fun x hx => absurd hx List.not_mem_nil⟩
    case round =>
      obtain ⟨i, R, b, hi40, rfl, hK, hG, hcm, hnm⟩ := hrel
      have HK := Lib.hid hK; have HG := Lib.hid hG; have HCM := Lib.hid hcm; have HNM := Lib.hid hnm
      clear hK hG hcm hnm K2
      by_cases hlt : i < X.length ∧ i < 40
      · obtain ⟨h1, h2⟩ := hlt
        obtain ⟨o, ho⟩ : ∃ o, X[i]? = some o := ⟨_, List.getElem?_eq_getElem h1⟩
        obtain ⟨ad, rfl, c0, c1, c2, c3, c4, c5⟩ := HX.out.cells HK.out.below ho
        have hi0 : (0 : Int) ≤ (i : Int) := by omega
        have hi1 : (i : Int) < (X.length : Int) := by omega
        have hd1 : decide ((i : Int) < (X.length : Int)) = true := decide_eq_true hi1
        have hd2 : decide ((i : Int) < 40) = true := decide_eq_true (by omega)
        have HOX := Lib.hid ho
        clear ho
        go_upto_block 1 with fail
        refine wp_blk (bodyOf Tryd.f3 1) (by kernel_rfl) ?_
        refine fair_round _ _ _ _ _ _ _ _ _ _ _ _ _ _ _ _ _ _ _ _ _ _ _ _ _ _ _ _ _ _ _ _ _ _ _ _ _ _ _ _ _ _ _ _ _ _ _ _ _ _ _ _ _ _ _ _ _ _ _ _ _ _ _ _ _ _ _ _ _ _ _ _ _ _ _ _ _ _ _ _ _ _ _ _ _ _ _ _ _ _ _ _ _ _ _ _ _ _ _ _ _ _ _ _ _ _ _ _ _ _ _ _ _ _ _ _ _ _ _ _ _ _ _ _ _ _ _ _ _ _ _ _ _ _ _ _ _ _ _ _ _ _ _ _ _ _ _ _ _ _ _ _ _ _ _ _ _ _ _ _ _ _ _ _ _ _ _ _ _ _ _ _ _ _ _ _ _ _ _ _ _ _ _ _ _ _ _ _ _ _ _ _ _ _ _ _ _ _ _ _ _ _ _ _ _ _ _ _ _ _ _ _ _ _ _ _ _ _ _ _ _ _ _ _ _ _ _ _ _ _ _ _ _ _ _ _ _ _ _ _ _ _ _ _ _ _ _ _ _ _ s (some ad) c i X w q R b o _ wr HS.out HX.out HK.out HG.out HCM.out h2 HNM.out HOX.out ?_
        intro _ _ _ _ _ _ _ _ _ _ _ _ _ _ _ _ _ _ _ _ _ _ _ _ _ _ _ _ _ _ _ _ _ _ _ _ _ _ _ _ _ _ _ _ _ _ _ _ _ _ _ _ _ _ _ _ _ _ _ _ _ _ _ _ _ _ _ _ _ _ _ _ _ _ _ _ _ _ _ _ _ _ _ _ _ _ _ _ _ _ _ _ _ _ _ _ _ _ _ _ _ _ _ _ _ _ _ _ _ _ _ _ _ _ _ _ _ _ _ _ _ _ _ _ _ _ _ _ _ _ _ _ _ _ _ _ _ _ _ _ _ _ _ _ _ _ _ _ _ _ _ _ _ _ _ _ _ _ _ _ _ _ _ _ _ _ _ _ _ _ _ _ _ _ _ _ _ _ _ _ _ _ _ _ _ _ _ _ _ _ _ _ _ _ _ _ _ _ _ _ _ _ _ _ _ _ _ _ _ _ _ _ _ _ _ _ _ _ _ _ _ _ _ _ _ _ _ _ _ _ _ _ _ _ _ _ w6 R' b' k1 k2 k3 k4
        have K1 := Lib.hid k1; have K2 := Lib.hid k2; have K3 := Lib.hid k3; have K4 := Lib.hid k4
        clear k1 k2 k3 k4 c0 c1 c2 c3 c4 c5 hd1 hd2
        go_wp2_with fail
        go_roundw
        case rel => exact ⟨i + 1, R', b', by omega, by go_num, K1.out, K2.out, by have := K3.out; omega, K4.out⟩
        case measure => simp [intOf]; omega
      ·
        have hdd : ¬ ((i : Int) < (X.length : Int)) ∨ ((i : Int) < (X.length : Int) ∧ ¬ (i : Int) < 40) := by omega
        clear hlt
        rcases hdd with hd | ⟨hd, hd40⟩
        · have hd1 : decide ((i : Int) < (X.length : Int)) = false := decide_eq_false hd
          go_wp2_with fail
          go_meet
          exact HK.out.below
        · have hd1 : decide ((i : Int) < (X.length : Int)) = true := decide_eq_true hd
          have hd2 : decide ((i : Int) < 40) = false := decide_eq_false hd40
          go_wp2_with fail
          go_meet
          exact HK.out.below
  case rest =>
    go_wp2_with fail
    go_ret
    exact ⟨rfl, hcut⟩
end Go.Proofs.YtcihghkiidkcnaaDoor
