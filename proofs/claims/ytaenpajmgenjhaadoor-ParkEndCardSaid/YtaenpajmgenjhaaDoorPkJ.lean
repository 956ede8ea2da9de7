/- The walk of the law ParkEnd: whatever the deeds, it returns true. Condition: the sentinels lie as the program's text lays them. -/
import Derived.Test.YtaenpajmgenjhaaDoorPkJa
namespace Go.Proofs.YtaenpajmgenjhaaDoor
open Go Go.RowKit

set_option maxHeartbeats 6400000 in
set_option maxRecDepth 100000 in
theorem pend_any (s : Nat → Addr) (A : Option Addr) (c : Nat) (X : List PkAD) (w : World) (hs : Sent s w) (hX : PkARow w w.heap.size A X) (_hl : X.length ≤ 9223372036854775807) :
    Calls Tryd.prog 5 #[.slice A X.length c] w fun e w' => e = .returned (.bool true) ∧ Below w.heap.size w w' := by
  have HS := Lib.hid hs
  have HX := Lib.hid hX
  clear hs hX
  go_enter Tryd.func5, Tryd.ntmps5
  go_wp2_with fail
  refine (awake_c s w HS.out).mono ?_
  rintro e w1 ⟨rfl, hb1⟩
  have B1 := Lib.hid hb1
  clear hb1
  go_wp2_with fail
  refine (PkAt.new w1).mono ?_
  rintro e w2 ⟨rfl, t2⟩
  obtain ⟨q, hq⟩ : ∃ q, w1.heap.size = q := ⟨_, rfl⟩
  rw [hq] at t2 ⊢
  have K2 : Hid (PkAt w w2 q q []) := Lib.hid ⟨t2.mem, B1.out.trans (t2.below.mono B1.out.size), by rw [← hq]; exact B1.out.size, t2.good, t2.sum⟩
  clear t2 hq B1
  go_upto_block 0 with fail
  go_cut [] (fun wx => ∃ (R : Nat) (P : List Mc), PkAt w wx q R P)
  case first =>
    go_wp2_with fail
    go_loopw [4] (fun u wr => ∃ (i R : Nat) (P : List Mc), i ≤ 60 ∧ u = .int .i64 (i : Int) ∧ PkAt w wr q R P) (fun u _ => 60 - (intOf u).toNat)
    case atStart => exact ⟨0, q, [], by omega, rfl, K2.out⟩
    case round =>
      obtain ⟨i, R, P, hi60, rfl, hK⟩ := hrel
      have HK := Lib.hid hK
      clear hK K2
      by_cases hlt : i < X.length ∧ i < 60
      · obtain ⟨h1, h2⟩ := hlt
        obtain ⟨x, hx⟩ : ∃ x, X[i]? = some x := ⟨_, List.getElem?_eq_getElem h1⟩
        have hi0 : (0 : Int) ≤ (i : Int) := by omega
        have hi1 : (i : Int) < (X.length : Int) := by omega
        have hd1 : decide ((i : Int) < (X.length : Int)) = true := decide_eq_true hi1
        have hd2 : decide ((i : Int) < 60) = true := decide_eq_true (by omega)
        have HXX := Lib.hid hx
        clear hx
        go_upto_block 1 with fail
        refine wp_blk (bodyOf Tryd.f5 1) (by kernel_rfl) ?_
        refine end_round _ _ _ _ _ _ _ _ _ _ _ _ _ _ _ _ _ _ _ _ _ _ _ _ _ _ _ _ _ _ _ _ _ _ _ _ _ _ _ _ _ _ _ _ _ _ _ _ _ _ _ _ _ _ _ _ _ _ _ _ _ _ _ _ _ _ _ _ _ _ _ _ _ _ _ _ _ _ _ _ _ _ _ _ _ _ _ _ _ _ _ _ _ _ _ _ _ _ _ _ _ _ _ _ _ _ _ _ _ _ s A c i X w q R P x _ wr HS.out HX.out HK.out HXX.out ?_
        intro _ _ _ _ _ _ _ _ _ _ _ _ _ _ _ _ _ _ _ _ _ _ _ _ _ _ _ _ _ w6 R' P' k1
        have K1 := Lib.hid k1
        clear k1 hd1 hd2
        go_wp2_with fail
        go_roundw
        case rel => exact ⟨i + 1, R', P', by omega, by go_num, K1.out⟩
        case measure => simp [intOf]; omega
      ·
        have hdd : ¬ ((i : Int) < (X.length : Int)) ∨ ((i : Int) < (X.length : Int) ∧ ¬ (i : Int) < 60) := by omega
        clear hlt
        rcases hdd with hd | ⟨hd, hd60⟩
        · have hd1 : decide ((i : Int) < (X.length : Int)) = false := decide_eq_false hd
          go_wp2_with fail
          go_meet
          exact ⟨R, P, HK.out⟩
        · have hd1 : decide ((i : Int) < (X.length : Int)) = true := decide_eq_true hd
          have hd2 : decide ((i : Int) < 60) = false := decide_eq_false hd60
          go_wp2_with fail
          go_meet
          exact ⟨R, P, HK.out⟩
  case rest =>
    obtain ⟨R, P, hK⟩ := hcut
    have HK := Lib.hid hK
    clear hK K2
    go_wp2_with fail
    refine HK.out.all.mono ?_
    rintro e w3 ⟨v3, rfl, o3, b3⟩
    obtain ⟨A3, n3, rfl⟩ := o3.form
    have HK3 := Lib.hid (HK.out.on b3)
    have HO3 := Lib.hid o3
    have HNE : Hid (∀ j, (Value.slice A3 P.length n3).ownBlock = some j → j ≠ q ∧ j ≠ R) := Lib.hid fun j hj => by
      have h1 := (o3.lt j hj).1
      have h2 := HK.out.mem.lt
      omega
    clear b3 o3
    go_upto_block 3 with fail
    refine wp_blk (bodyOf Tryd.f5 3) (by kernel_rfl) ?_
    refine end_drops _ _ _ _ _ _ _ _ _ _ _ _ _ _ _ _ _ _ _ _ _ _ _ _ _ _ _ _ _ _ _ _ _ _ _ _ _ _ _ _ _ _ _ _ _ _ _ _ _ _ _ _ _ _ _ _ _ _ _ _ _ _ _ _ _ _ _ _ _ _ _ _ _ _ _ _ _ _ _ _ _ _ _ _ _ _ _ _ _ _ _ _ _ _ _ _ _ _ _ _ _ _ _ _ _ _ _ _ _ _ s w q R _ n3 A3 P _ w3 HS.out HK3.out HO3.out HK.out.good HNE.out ?_
    intro _ _ _ _ _ _ _ _ _ _ _ _ _ _ _ _ w4 k4 o4
    have HK4 := Lib.hid k4; have HO4 := Lib.hid o4
    clear k4 o4
    go_upto_block 5 with fail
    refine wp_blk (bodyOf Tryd.f5 5) (by kernel_rfl) ?_
    refine end_none _ _ _ _ _ _ _ _ _ _ _ _ _ _ _ _ _ _ _ _ _ _ _ _ _ _ _ _ _ _ _ _ _ _ _ _ _ _ _ _ _ _ _ _ _ _ _ _ _ _ _ _ _ _ _ _ _ _ _ _ _ _ _ _ _ _ _ _ _ _ _ _ _ _ _ _ _ _ _ _ _ _ _ _ _ _ _ _ _ _ _ _ _ _ _ _ _ _ _ _ _ _ _ _ _ _ _ _ _ _ _ s w q R _ w4 HS.out HK4.out ?_
    intro _ _ _ _ _ _ _ _ _ _ _ _ _ _ _ _ _ _ w5 k5 b5
    have HK5 := Lib.hid k5; have HO5 := Lib.hid (HO4.out.on b5)
    clear k5 b5
    go_upto_block 7 with fail
    refine wp_blk (bodyOf Tryd.f5 7) (by kernel_rfl) ?_
    refine end_adds _ _ _ _ _ _ _ _ _ _ _ _ _ _ _ _ _ _ _ _ _ _ _ _ _ _ _ _ _ _ _ _ _ _ _ _ _ _ _ _ _ _ _ _ _ _ _ _ _ _ _ _ _ _ _ _ _ _ _ _ _ _ _ _ _ _ _ _ _ _ _ _ _ _ _ _ _ _ _ _ _ _ _ _ _ _ _ _ _ _ _ _ _ _ _ _ _ _ _ _ _ _ _ _ _ _ _ _ _ _ s w q R _ n3 A3 P _ w5 HS.out HK5.out HO5.out HK.out.good HNE.out HK.out.sum ?_
    intro _ _ _ _ _ _ _ _ _ _ _ _ _ _ _ _ _ _ _ _ _ _ _ _ _ _ w6 R' k6
    have HK6 := Lib.hid k6
    clear k6
    go_wp2_with fail
    refine HK6.out.all.mono ?_
    rintro e w7 ⟨v7, rfl, o7, b7⟩
    obtain ⟨A7, n7, rfl⟩ := o7.form
    rw [show (upP P).length = P.length from by unfold upP; rw [List.length_map]]
    have HB7 := Lib.hid (HK6.out.on b7).below
    clear b7 o7
    go_wp2_with fail
    go_ret
    exact ⟨by simp, HB7.out⟩
end Go.Proofs.YtaenpajmgenjhaaDoor
