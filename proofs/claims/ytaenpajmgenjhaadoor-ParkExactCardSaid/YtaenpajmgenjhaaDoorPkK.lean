/- The walk of the law ParkExact: whatever the deeds, it returns true. Condition: the sentinels lie as the program's text lays them. -/
import Derived.Test.YtaenpajmgenjhaaDoorPkKd
namespace Go.Proofs.YtaenpajmgenjhaaDoor
open Go Go.RowKit

set_option maxHeartbeats 6400000 in
set_option maxRecDepth 100000 in
theorem pexact_any (s : Nat → Addr) (A : Option Addr) (c : Nat) (X : List PkAD) (w : World) (hs : Sent s w) (hX : PkARow w w.heap.size A X) (_hl : X.length ≤ 9223372036854775807) :
    Calls Tryd.prog 3 #[.slice A X.length c] w fun e w' => e = .returned (.bool true) ∧ Below w.heap.size w w' := by
  have HS := Lib.hid hs
  have HX := Lib.hid hX
  clear hs hX
  go_enter Tryd.func3, Tryd.ntmps3
  go_wp2_with fail
  refine (awake_c s w HS.out).mono ?_
  rintro e w1 ⟨rfl, hb1⟩
  have B1 := Lib.hid hb1
  clear hb1
  go_wp2_with fail
  refine (PkAt.new w1).mono ?_
  rintro e w2 ⟨rfl, t2⟩
  obtain ⟨q, hq⟩ : ∃ q, w1.heap.size = q := ⟨_, rfl⟩
  rw [hq] at t2 ⊢
  have K2 : PkAt w w2 q q [] := ⟨t2.mem, B1.out.trans (t2.below.mono B1.out.size), by rw [← hq]; exact B1.out.size, t2.good, t2.sum⟩
  obtain ⟨u, hu⟩ : ∃ u, u = w2.heap.size := ⟨_, rfl⟩
  obtain ⟨W3, hW3⟩ : ∃ W3, W3 = w2.alloc (.cells Tryd.zeroCells32 32) := ⟨_, rfl⟩
  have K3 : Hid (PxAt w W3 q q u []) := Lib.hid (by
    have hlt := K2.mem.lt
    have hsz := K2.below.size
    rw [hW3]
    exact ⟨K2.alloc _, by rw [hu]; exact PkR.new w2, by omega, by omega, by omega⟩)
  have HU := Lib.hid hu
  have HW3 := Lib.hid hW3
  clear t2 hq B1 K2 hu hW3
  go_upto_region 5 with fail
  rw [← HW3.out, ← HU.out]
  go_upto_block 0 with fail
  go_cut [] (fun wx => ∃ (R : Nat) (P : List Mc), PxAt w wx q R u P)
  case first =>
    go_wp2_with fail
    go_loopw [5] (fun v wr => ∃ (i R : Nat) (P : List Mc), i ≤ 60 ∧ v = .int .i64 (i : Int) ∧ PxAt w wr q R u P) (fun v _ => 60 - (intOf v).toNat)
    case atStart => exact ⟨0, q, [], by omega, rfl, K3.out⟩
    case round =>
      obtain ⟨i, R, P, hi60, rfl, hK⟩ := hrel
      have HK := Lib.hid hK
      clear hK K3
      by_cases hlt : i < X.length ∧ i < 60
      · obtain ⟨h1, h2⟩ := hlt
        obtain ⟨x, hx⟩ : ∃ x, X[i]? = some x := ⟨_, List.getElem?_eq_getElem h1⟩
        have hi0 : (0 : Int) ≤ (i : Int) := by omega
        have hi1 : (i : Int) < (X.length : Int) := by omega
        have hd1 : decide ((i : Int) < (X.length : Int)) = true := decide_eq_true hi1
        have hd2 : decide ((i : Int) < 60) = true := decide_eq_true (by omega)
        have HXX := Lib.hid hx
        clear hx
        go_upto_block 1 with fail
        refine wp_blk (bodyOf Tryd.f3 1) (by kernel_rfl) ?_
        refine exact_round _ _ _ _ _ _ _ _ _ _ _ _ _ _ _ _ _ _ _ _ _ _ _ _ _ _ _ _ _ _ _ _ _ _ _ _ _ _ _ _ _ _ _ _ _ _ _ _ _ _ _ _ _ _ _ _ _ _ _ _ _ _ _ _ _ _ _ _ _ _ _ _ _ _ _ _ _ _ _ _ _ _ _ _ _ _ _ _ _ _ _ _ _ _ _ _ _ _ _ _ _ _ _ _ _ _ _ _ _ _ _ _ _ _ _ _ _ _ _ _ _ _ _ _ _ _ _ _ _ _ _ _ _ _ _ _ _ _ _ _ _ _ _ _ _ _ _ _ _ _ _ _ _ _ _ _ _ _ _ _ _ _ _ _ _ _ _ _ _ _ _ _ _ _ _ _ _ _ _ _ _ _ _ _ _ _ _ _ _ _ _ _ _ _ _ _ _ _ _ _ _ _ _ _ _ _ _ _ _ _ _ _ _ _ _ _ _ _ _ _ _ _ _ _ _ _ _ _ _ _ _ _ _ _ _ _ _ _ _ _ _ _ _ _ _ _ _ _ _ _ s A c i X w q R u P x _ wr HS.out HX.out HK.out HXX.out ?_
        intro _ _ _ _ _ _ _ _ _ _ _ _ _ _ _ _ _ _ _ _ _ _ _ _ _ _ _ _ _ _ _ _ _ _ _ _ _ _ _ _ _ _ _ _ _ _ _ _ _ _ _ _ _ _ _ _ _ _ _ _ _ _ _ _ _ _ _ _ _ _ _ _ _ _ _ _ _ _ _ _ _ _ _ _ _ _ _ _ _ _ _ _ _ _ _ _ _ _ _ _ _ _ _ _ _ _ _ _ _ _ _ _ w6 R' P' k1
        have K1 := Lib.hid k1
        clear k1 hd1 hd2
        go_wp2_with fail
        go_roundw
        case rel => exact ⟨i + 1, R', P', by omega, by go_num, K1.out⟩
        case measure => simp [intOf]; omega
      ·
        have hdd : ¬ ((i : Int) < (X.length : Int)) ∨ ((i : Int) < (X.length : Int) ∧ ¬ (i : Int) < 60) := by omega
        clear hlt
        rcases hdd with hd | ⟨hd, hd60⟩
        · have hd1 : decide ((i : Int) < (X.length : Int)) = false := decide_eq_false hd
          go_wp2_with fail
          go_meet
          exact ⟨R, P, HK.out⟩
        · have hd1 : decide ((i : Int) < (X.length : Int)) = true := decide_eq_true hd
          have hd2 : decide ((i : Int) < 60) = false := decide_eq_false hd60
          go_wp2_with fail
          go_meet
          exact ⟨R, P, HK.out⟩
  case rest =>
    obtain ⟨R, P, hK⟩ := hcut
    have HK := Lib.hid hK
    clear hK K3
    go_upto_block 5 with fail
    refine wp_blk (bodyOf Tryd.f3 5) (by kernel_rfl) ?_
    refine exact_lists _ _ _ _ _ _ _ _ _ _ _ _ _ _ _ _ _ _ _ _ _ _ _ _ _ _ _ _ _ _ _ _ _ _ _ _ _ _ _ _ _ _ _ _ _ _ _ _ _ _ _ _ _ _ _ _ _ _ _ _ _ _ _ _ _ _ _ _ _ _ _ _ _ _ _ _ _ _ _ _ _ _ _ _ _ _ _ _ _ _ _ _ _ _ _ _ _ _ _ _ _ _ _ _ _ _ _ _ _ _ _ _ _ _ _ _ _ _ _ _ _ _ _ _ _ _ _ _ _ _ _ _ _ _ _ _ _ _ _ _ _ _ _ _ _ _ _ _ _ _ _ _ _ _ _ _ _ _ _ _ _ _ _ _ _ _ _ _ _ _ _ _ _ _ _ _ _ _ _ _ _ _ _ _ _ _ _ _ _ _ _ _ _ _ _ _ _ _ _ _ _ _ _ _ _ _ _ _ _ _ _ _ _ _ _ _ _ _ _ _ _ _ _ _ _ _ _ _ _ _ _ _ _ _ _ _ _ _ _ _ _ _ _ _ _ _ _ _ _ _ _ w q R u P _ _ HK.out ?_
    intro _ _ _ _ _ _ _ _ _ _ _ _ _ _ _ _ _ _ _ _ _ _ _ _ _ _ _ _ _ _ _ _ _ _ _ _ _ _ _ _ _ _ _ _ _ _ _ _ _ _ _ _ _ _ _ _ _ _ _ _ _ _ _ _ _ _ _ _ _ _ _ _ _ _ _ _ _ _ w5 k5 _
    have HB5 := Lib.hid k5.p.below
    clear k5 HK
    go_wp2_with fail
    refine (of_nil 1 _).mono ?_
    rintro e w6 ⟨rfl, b6⟩
    obtain ⟨W7, hW7⟩ : ∃ W7, W7 = w6.alloc (.cells #[.int .i64 mc0.id, .int .i64 mc0.cell, .int .i64 mc0.has.a, .int .i64 mc0.has.b, .int .i64 mc0.has.c, .int .i64 mc0.has.d, .int .i64 mc0.st] 45) := ⟨_, rfl⟩
    have HB7 : Hid (Below w.heap.size w W7) := Lib.hid (by rw [hW7]; exact (HB5.out.trans (b6.mono HB5.out.size)).alloc (Nat.le_trans HB5.out.size b6.size) _)
    have HW7 := Lib.hid hW7
    clear b6 hW7 HB5
    have hE : ∀ W : World, (Op.equalIn 10000 28 (.agg #[.int .i64 0, .int .i64 0, .int .i64 0, .int .i64 0]) (.agg #[.int .i64 0, .int .i64 0, .int .i64 0, .int .i64 0])).run Tryd.prog W = .ok true W := fun W => (eqV 0 0 0 0 0 0 0 0 W)
    go_upto_region 44 with fail
    rw [← HW7.out]
    go_wp2_with fail
    refine (addN_nil s 1 1 ⟨0, 0, 0, 0⟩ W7 (HS.out.below HB7.out (Nat.le_refl _))).mono ?_
    rintro e w8 ⟨rfl, b8⟩
    have HB8 := Lib.hid (HB7.out.trans (b8.mono HB7.out.size))
    clear b8 HB7 HW7
    go_wp2_with fail
    refine (kind_errV s 2 w8 (HS.out.below HB8.out (Nat.le_refl _)) (by omega)).mono ?_
    rintro e w9 ⟨rfl, b9⟩
    have HB9 := Lib.hid (HB8.out.trans (b9.mono HB8.out.size))
    clear b9 HB8
    go_wp2_with fail
    refine (drop_nil s 1 w9 (HS.out.below HB9.out (Nat.le_refl _))).mono ?_
    rintro e w10 ⟨rfl, b10⟩
    have HB10 := Lib.hid (HB9.out.trans (b10.mono HB9.out.size))
    clear b10 HB9
    go_wp2_with fail
    refine (kind_errV s 2 w10 (HS.out.below HB10.out (Nat.le_refl _)) (by omega)).mono ?_
    rintro e w11 ⟨rfl, b11⟩
    have HB11 := Lib.hid (HB10.out.trans (b11.mono HB10.out.size))
    clear b11 HB10
    go_wp2_with fail
    refine (set_nil s 1 1 w11 (HS.out.below HB11.out (Nat.le_refl _))).mono ?_
    rintro e w12 ⟨rfl, b12⟩
    have HB12 := Lib.hid (HB11.out.trans (b12.mono HB11.out.size))
    clear b12 HB11
    go_wp2_with fail
    refine (kind_errV s 2 w12 (HS.out.below HB12.out (Nat.le_refl _)) (by omega)).mono ?_
    rintro e w13 ⟨rfl, b13⟩
    have HB13 := Lib.hid (HB12.out.trans (b13.mono HB12.out.size))
    clear b13 HB12
    go_wp2_with fail
    refine (list_nil 1 w13).mono ?_
    rintro e w14 ⟨v14, rfl, o14, b14⟩
    obtain ⟨A14, n14, rfl⟩ := o14.form
    rw [show ([] : List Mc).length = 0 from rfl]
    have HB14 := Lib.hid (HB13.out.trans (b14.mono HB13.out.size))
    clear b14 o14 HB13
    go_wp2_with fail
    refine (all_nil w14).mono ?_
    rintro e w15 ⟨v15, rfl, o15, b15⟩
    obtain ⟨A15, n15, rfl⟩ := o15.form
    rw [show ([] : List Mc).length = 0 from rfl]
    have HB15 := Lib.hid (HB14.out.trans (b15.mono HB14.out.size))
    clear b15 o15 HB14
    go_wp2_with fail
    refine (live_nil s 1 w15 (HS.out.below HB15.out (Nat.le_refl _))).mono ?_
    rintro e w16 ⟨rfl, b16⟩
    have HB16 := HB15.out.trans (b16.mono HB15.out.size)
    clear b16 HB15
    go_wp2_with fail
    go_ret
    exact ⟨rfl, HB16⟩
end Go.Proofs.YtaenpajmgenjhaaDoor
