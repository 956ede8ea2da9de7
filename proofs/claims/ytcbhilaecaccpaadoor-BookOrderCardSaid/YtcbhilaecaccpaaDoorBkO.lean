/- The walk of the law BookOrder: whatever the arguments, it returns true. Condition: the sentinels lie as the program's text lays them. -/
import Derived.Test.YtcbhilaecaccpaaDoorBkA
import Derived.Test.YtcbhilaecaccpaaDoorBkN
import Derived.Test.YtcbhilaecaccpaaDoorInts
import Derived.Deep.RegionHeld3
namespace Go.Proofs.YtcbhilaecaccpaaDoor
open Go Go.RowKit

set_option maxHeartbeats 6400000 in
set_option maxRecDepth 100000 in
theorem order_any (s : Nat → Addr) (pv : Value) (P : List Int) (sell : Bool) (cut : Int) (w : World) (hs : Sent s w) (hP : RI w pv P) (hl : P.length ≤ 9223372036854775807) :
    Calls Tryd.prog 4 #[pv, .bool sell, .int .i64 cut] w fun e w' => e = .returned (.bool true) ∧ Below w.heap.size w w' := by
  have HS := Lib.hid hs
  have HP := Lib.hid hP
  obtain ⟨pa, pc, rfl, hcells⟩ := hP
  obtain ⟨n, hn⟩ : ∃ n, min P.length 30 = n := ⟨_, rfl⟩
  have hn1 : n ≤ P.length := by omega
  have hn2 : n ≤ 30 := by omega
  have hmin : ∀ ts t W, (Builtin.min_ ts t #[.int .i64 (P.length : Int), .int .i64 30]).run Tryd.prog W = .ok (.int .i64 (n : Int)) W := by
    intro ts t W
    rw [← hn]
    refine (run_min_int2 _ _ _ _ _ _ _).trans ?_
    by_cases h : (30 : Int) < (P.length : Int)
    · rw [if_pos h, show min P.length 30 = 30 by omega]; rfl
    · rw [if_neg h, show min P.length 30 = P.length by omega]
  clear hs hcells hn
  go_enter Tryd.func4, Tryd.ntmps4
  go_wp2_with fail
  refine (awake_c s w HS.out).mono ?_
  rintro e w1 ⟨rfl, hb1⟩
  have B1 := Lib.hid hb1
  clear hb1
  go_wp2_with fail
  refine (new_c w1).mono ?_
  rintro e w2 ⟨rfl, t2, b2⟩
  generalize hq : w1.heap.size = q at t2 ⊢
  have K2 : Hid (BkAt w w2 q q (bkO sell P 0)) := Lib.hid ⟨t2, B1.out.trans (b2.mono B1.out.size), by rw [← hq]; exact B1.out.size⟩
  clear t2 b2 hq B1
  go_wp2_with fail
  go_loopw [9] (fun u wr => ∃ (i R : Nat), i ≤ n ∧ u = .int .i64 (i : Int) ∧ BkAt w wr q R (bkO sell P i)) (fun u _ => n - (intOf u).toNat)
  case atStart => exact ⟨0, q, Nat.zero_le _, rfl, K2.out⟩
  case round =>
    obtain ⟨i, R, hi, rfl, hK⟩ := hrel
    have HK := Lib.hid hK
    clear hK K2
    by_cases hlt : i < n
    · obtain ⟨p, hp⟩ : ∃ p, P[i]? = some p := ⟨_, List.getElem?_eq_getElem (by omega)⟩
      obtain ⟨_, _, e1, k1⟩ := HP.out.on HK.out.below
      obtain ⟨ad, hpa, ca⟩ := k1 i p hp
      cases e1
      subst hpa
      have hi0 : (0 : Int) ≤ (i : Int) := by omega
      have hi1 : (i : Int) < (P.length : Int) := by omega
      have hi2 : (i : Int) < (n : Int) := by omega
      have hw := prO_wrap p
      have HA := Lib.hid (HK.out.add HS.out (bkO_gb sell P i (by omega) (by omega)) (by show i ≤ 1000; omega) ⟨(i : Int) + 1, 0, sell, prO p, 5, 0⟩)
      rw [bkO_add sell P i p hp (by omega), show errV s (bkO sell P (i + 1), 0).2 = .nilIface from rfl] at HA
      clear hp k1
      go_wp2_with fail
      refine HA.out.mono ?_
      rintro e w3 ⟨rfl, R3, t3, g3⟩
      have HK3 := Lib.hid t3
      clear t3 g3 HA HK ca hw
      go_wp2_with fail
      go_roundw
      case rel => exact ⟨i + 1, R3, by omega, by go_num, HK3.out⟩
      case measure => simp [intOf]; omega
    · obtain rfl : i = n := by omega
      obtain ⟨B, hB⟩ : ∃ B, wr.heap.size = B := ⟨_, rfl⟩
      have HWR : Hid (q < B ∧ R < B ∧ w.heap.size ≤ B) := Lib.hid (by rw [← hB]; exact ⟨HK.out.book.lt.1, HK.out.book.lt.2.1, HK.out.below.size⟩)
      obtain ⟨hO, hno⟩ := ordL sell P i hn1 hn2
      have hgb := bkO_gb sell P i hn1 hn2
      generalize hM : listR13 (bkL sell P i) sell = M at hO
      have hOl := hO.len
      have HO := Lib.hid hO
      have HL1 := Lib.hid (HK.out.list hgb sell)
      rw [show (bkO sell P i).L = bkL sell P i from rfl, hM, hB] at HL1
      have HL2 := Lib.hid (fun (W : World) (hW : BkAt w W q R (bkO sell P i)) => hW.list hgb (!sell))
      rw [show (bkO sell P i).L = bkL sell P i from rfl, hno] at HL2
      clear hO hno hM hmin hB
      go_wp2_with fail
      refine HL1.out.mono ?_
      rintro e w3 ⟨v, rfl, ho, t3, b3⟩
      obtain ⟨A, c, rfl⟩ := ho.form
      rw [hOl] at ho ⊢
      have HO3 := Lib.hid ho
      have HK3 := Lib.hid t3
      clear ho t3 b3 HL1
      go_wp2_with fail
      refine (HL2.out _ HK3.out).mono ?_
      rintro e w4 ⟨v, rfl, ho, t4, b4⟩
      obtain ⟨A', c', rfl⟩ := ho.form
      rw [List.length_nil] at *
      have HO4 := Lib.hid (HO3.out.on b4)
      have HK4 := Lib.hid t4
      clear ho t4 b4 HO3 HK3 HL2 HK
      go_wp2_with fail
      go_loopw [11] (fun u W => ∃ j : Nat, 1 ≤ j ∧ u = .int .i64 (j : Int) ∧ OwnE encOd 31 W B (.slice A i c) M ∧ BkAt w W q R (bkO sell P i)) (fun u _ => i - (intOf u).toNat)
      case atStart => exact ⟨1, Nat.le_refl _, rfl, HO4.out, HK4.out⟩
      case round =>
        obtain ⟨j, hj, rfl, hoj, hkj⟩ := hrel
        have HOJ := Lib.hid hoj
        have HKJ := Lib.hid hkj
        clear hoj hkj HO4 HK4
        by_cases hji : j < i
        · obtain ⟨m, hm⟩ : ∃ m : Nat, j = m + 1 := ⟨j - 1, by omega⟩
          obtain ⟨x, hx⟩ : ∃ x, M[m]? = some x := ⟨_, List.getElem?_eq_getElem (by omega)⟩
          obtain ⟨y, hy⟩ : ∃ y, M[j]? = some y := ⟨_, List.getElem?_eq_getElem (by omega)⟩
          obtain ⟨k1, k2, k3⟩ := HO.out.next hx (hm ▸ hy)
          obtain ⟨ad, g, rfl, ea1, _, gl, _, hc1⟩ := HOJ.out.at hx
          obtain ⟨ad', g', e1, ea2, _, _, _, hc2⟩ := HOJ.out.at hy
          cases e1
          have x0 := hc1 0 _ rfl
          have x3 := hc1 3 _ rfl
          have y0 := hc2 0 _ rfl
          have y3 := hc2 3 _ rfl
          simp only [Nat.add_zero] at x0 y0
          have hw1 : wrap64 ((j : Int) - 1) = (m : Int) := by unfold wrap64; omega
          have hw2 : IntKind.i64.wrap ((j : Int) - 1) = (m : Int) := by rw [IntWalk.i64_in _ (by omega)]; omega
          have hw3 : (j : Int) - 1 = (m : Int) := by omega
          have hj0 : (0 : Int) ≤ (j : Int) := by omega
          have hj1 : (j : Int) < (i : Int) := by omega
          have hm0 : (0 : Int) ≤ (m : Int) := by omega
          have hm1 : (m : Int) < (i : Int) := by omega
          clear hx hy hc1 hc2 hm
          by_cases hp : x.price = y.price
          · have hid : decide (y.id ≤ x.id) = false := decide_eq_false (by have := k1 hp; omega)
            have hpp : (x.price == y.price) = true := by simpa using hp
            cases sell
            · have hs1 : decide (x.price < y.price) = false := decide_eq_false (by have := k3 rfl; omega)
              clear k1 k2 k3 hp
              go_wp2_with fail
              go_quiet (fail)
              go_wp2_with fail
              go_roundw
              case rel => exact ⟨j + 1, by omega, by go_num, HOJ.out.on (below_drewN (Below.refl _ _) _), HKJ.out.drewN _⟩
              case measure => simp [intOf]; omega
            · have hs1 : decide (y.price < x.price) = false := decide_eq_false (by have := k2 rfl; omega)
              clear k1 k2 k3 hp
              go_wp2_with fail
              go_quiet (fail)
              go_wp2_with fail
              go_roundw
              case rel => exact ⟨j + 1, by omega, by go_num, HOJ.out.on (below_drewN (Below.refl _ _) _), HKJ.out.drewN _⟩
              case measure => simp [intOf]; omega
          · have hpp : (x.price == y.price) = false := by simpa using hp
            cases sell
            · have hs1 : decide (x.price < y.price) = false := decide_eq_false (by have := k3 rfl; omega)
              clear k1 k2 k3 hp
              go_wp2_with fail
              go_quiet (fail)
              go_wp2_with fail
              go_roundw
              case rel => exact ⟨j + 1, by omega, by go_num, HOJ.out.on (below_drewN (Below.refl _ _) _), HKJ.out.drewN _⟩
              case measure => simp [intOf]; omega
            · have hs1 : decide (y.price < x.price) = false := decide_eq_false (by have := k2 rfl; omega)
              clear k1 k2 k3 hp
              go_wp2_with fail
              go_quiet (fail)
              go_wp2_with fail
              go_roundw
              case rel => exact ⟨j + 1, by omega, by go_num, HOJ.out.on (below_drewN (Below.refl _ _) _), HKJ.out.drewN _⟩
              case measure => simp [intOf]; omega
        · by_cases hi0 : i = 0
          · subst hi0
            have hji' : ¬ (j : Int) < (0 : Int) := by omega
            go_wp2_with fail
            go_ret
            exact ⟨rfl, HKJ.out.below⟩
          · obtain ⟨k, hk, hmod⟩ := mod_pos cut i (by omega) (by omega)
            have hu := u64_nat i (by omega)
            have hji' : ¬ (j : Int) < (i : Int) := by omega
            have hne : ¬ (i : Int) = 0 := by omega
            obtain ⟨y, hy⟩ : ∃ y, M[k]? = some y := ⟨_, List.getElem?_eq_getElem (by omega)⟩
            obtain ⟨q1, q2, q3, q4, q5, q6, q7⟩ := HO.out.cut hy
            obtain ⟨ad, g, rfl, ea, _, gl, _, hc1⟩ := HOJ.out.at hy
            have y0 := hc1 0 _ rfl
            simp only [Nat.add_zero] at y0
            have hk0 : (0 : Int) ≤ (k : Int) := by omega
            have hk1 : (k : Int) < (i : Int) := by omega
            have HC := Lib.hid (HKJ.out.cut HS.out hgb y.id 3)
            rw [show bkO sell P i = ⟨bkL sell P i, i⟩ from rfl, q1, show errV s ((⟨(bkL sell P i).map (atId y.id 2), i⟩, 0) : RB × Nat).2 = .nilIface from rfl] at HC
            have Q3 := Lib.hid q3; have Q4 := Lib.hid q4; have Q5 := Lib.hid q5; have Q6 := Lib.hid q6; have Q7 := Lib.hid q7
            have HY := Lib.hid hy
            have QG := Lib.hid q2
            generalize hb' : (⟨(bkL sell P i).map (atId y.id 2), i⟩ : RB) = b' at HC Q5 Q6 Q7 QG
            have HL3 := Lib.hid (fun (W : World) (hW : BkAt w W q R b') => hW.list QG.out sell)
            have hbl : listR13 b'.L sell = M.map (atId y.id 2) := by rw [← hb']; exact Q3.out
            rw [hbl] at HL3
            clear q1 q2 q3 q4 q5 q6 q7 hy hc1 hi0 hbl hb' Q3
            go_wp2_with fail
            refine HC.out.mono ?_
            rintro e w5 ⟨rfl, t5, g5⟩
            have HO5 : Hid (OwnE encOd 31 w5 B (.slice (some ad) i c) M) := Lib.hid (HOJ.out.same fun k' hk' => g5.block k' (HOJ.out.lt k' hk').2 (by have := (HOJ.out.lt k' hk').1; have := HWR.out; omega) (by have := (HOJ.out.lt k' hk').1; have := HWR.out; omega))
            have HK5 := Lib.hid t5
            clear t5 g5 HOJ HKJ HC gl y0 ea
            go_wp2_with fail
            refine (HL3.out _ HK5.out).mono ?_
            rintro e w6 ⟨v, rfl, ho, t6, b6⟩
            obtain ⟨Am, cm, rfl⟩ := ho.form
            rw [List.length_map, hOl] at ho ⊢
            obtain ⟨B2, hB2⟩ : ∃ B2, w5.heap.size = B2 := ⟨_, rfl⟩
            have HW2 : Hid (q < B2 ∧ R < B2) := Lib.hid (by rw [← hB2]; exact ⟨HK5.out.book.lt.1, HK5.out.book.lt.2.1⟩)
            rw [hB2] at ho
            have HM6 := Lib.hid ho
            have HO6 := Lib.hid ((HO5.out.on b6).base (base' := w.heap.size) HWR.out.2.2)
            have HK6 := Lib.hid t6
            clear ho t6 b6 HO5 HK5 HL3 hB2
            go_wp2_with fail
            go_loopw [14] (fun u W => ∃ j : Nat, u = .int .i64 (j : Int) ∧ OwnE encOd 31 W w.heap.size (.slice (some ad) i c) M ∧ OwnE encOd 31 W B2 (.slice Am i cm) (M.map (atId y.id 2)) ∧ BkAt w W q R b') (fun u _ => i - (intOf u).toNat)
            case atStart => exact ⟨0, rfl, HO6.out, HM6.out, HK6.out⟩
            case round =>
              obtain ⟨j, rfl, hoj, hmj, hkj⟩ := hrel
              have HOJ := Lib.hid hoj
              have HMJ := Lib.hid hmj
              have HKJ := Lib.hid hkj
              clear hoj hmj hkj HO6 HM6 HK6
              by_cases hji : j < i
              · obtain ⟨x, hx⟩ : ∃ x, M[j]? = some x := ⟨_, List.getElem?_eq_getElem (by omega)⟩
                have hx' := Q4.out j x hx
                obtain ⟨ad2, g, e2, ea2, _, gl, _, hc1⟩ := HOJ.out.at hx
                cases e2
                obtain ⟨am, gm, rfl, eam, _, gml, _, hc2⟩ := HMJ.out.at hx'
                have x0 := hc1 0 _ rfl
                have x1 := hc1 1 _ rfl
                have x2 := hc1 2 _ rfl
                have x3 := hc1 3 _ rfl
                have x4 := hc1 4 _ rfl
                have x5 := hc1 5 _ rfl
                simp only [Nat.add_zero] at x0
                have hj0 : (0 : Int) ≤ (j : Int) := by omega
                have hj1 : (j : Int) < (i : Int) := by omega
                clear hx hx' hc1
                by_cases hjk : j = k
                · subst hjk
                  rw [if_pos rfl] at hc2
                  have HC2 := Lib.hid hc2
                  have hE : ∀ W : World, (Op.equalIn 10000 31 (.agg #[.int .i64 x.id, .int .i64 x.tn, .bool x.sell, .int .i64 x.price, .int .i64 2, .int .i64 x.seq]) (.agg #[.int .i64 x.id, .int .i64 x.tn, .bool x.sell, .int .i64 x.price, .int .i64 2, .int .i64 x.seq])).run Tryd.prog W = .ok true W := fun W => (eqBO { x with lots := 2 } { x with lots := 2 } W).trans (by rw [decide_eq_true rfl])
                  clear hc2
                  go_wp2_with fail
                  obtain ⟨W7, hW7⟩ : ∃ W7, W7 = wr.alloc (.cells #[.int .i64 x.id, .int .i64 x.tn, .bool x.sell, .int .i64 x.price, .int .i64 2, .int .i64 x.seq] 31) := ⟨_, rfl⟩
                  have hB7 : Below wr.heap.size wr W7 := by rw [hW7]; exact (Below.refl _ _).alloc (Nat.le_refl _) _
                  have hz7 : BOdBlk W7 wr.heap.size { x with lots := 2 } := by rw [hW7]; exact BOdBlk.new _ { x with lots := 2 }
                  rw [← hW7]
                  clear hW7
                  obtain ⟨z0, z1, z2, z3, z4, z5, zl⟩ := hz7.cells
                  have m0 := (hB7.cell (p := ⟨gm, j * 6, none⟩) gml).trans (HC2.out 0 _ rfl)
                  have m1 := (hB7.cell (p := ⟨gm, j * 6 + 1, none⟩) gml).trans (HC2.out 1 _ rfl)
                  have m2 := (hB7.cell (p := ⟨gm, j * 6 + 2, none⟩) gml).trans (HC2.out 2 _ rfl)
                  have m3 := (hB7.cell (p := ⟨gm, j * 6 + 3, none⟩) gml).trans (HC2.out 3 _ rfl)
                  have m4 := (hB7.cell (p := ⟨gm, j * 6 + 4, none⟩) gml).trans (HC2.out 4 _ rfl)
                  have m5 := (hB7.cell (p := ⟨gm, j * 6 + 5, none⟩) gml).trans (HC2.out 5 _ rfl)
                  have HB7 := Lib.hid hB7
                  clear hB7 hz7 x0 x1 x2 x3 x4 x5
                  go_quiet (fail)
                  go_wp2_with fail
                  go_roundw
                  case rel => exact ⟨j + 1, by go_num, (HOJ.out.on HB7.out).on (below_drewN (Below.refl _ _) _), (HMJ.out.on HB7.out).on (below_drewN (Below.refl _ _) _), (HKJ.out.on HB7.out).drewN _⟩
                  case measure => simp [intOf]; omega
                · rw [if_neg hjk] at hc2
                  have HC2 := Lib.hid hc2
                  have hjk' : ((j : Int) == (k : Int)) = false := by simpa using (show ¬ (j : Int) = (k : Int) by omega)
                  have hE : ∀ W : World, (Op.equalIn 10000 31 (.agg #[.int .i64 x.id, .int .i64 x.tn, .bool x.sell, .int .i64 x.price, .int .i64 x.lots, .int .i64 x.seq]) (.agg #[.int .i64 x.id, .int .i64 x.tn, .bool x.sell, .int .i64 x.price, .int .i64 x.lots, .int .i64 x.seq])).run Tryd.prog W = .ok true W := fun W => (eqBO x x W).trans (by rw [decide_eq_true rfl])
                  clear hc2 hjk
                  go_wp2_with fail
                  obtain ⟨W7, hW7⟩ : ∃ W7, W7 = wr.alloc (.cells #[.int .i64 x.id, .int .i64 x.tn, .bool x.sell, .int .i64 x.price, .int .i64 x.lots, .int .i64 x.seq] 31) := ⟨_, rfl⟩
                  have hB7 : Below wr.heap.size wr W7 := by rw [hW7]; exact (Below.refl _ _).alloc (Nat.le_refl _) _
                  have hz7 : BOdBlk W7 wr.heap.size x := by rw [hW7]; exact BOdBlk.new _ _
                  rw [← hW7]
                  clear hW7
                  obtain ⟨z0, z1, z2, z3, z4, z5, zl⟩ := hz7.cells
                  have m0 := (hB7.cell (p := ⟨gm, j * 6, none⟩) gml).trans (HC2.out 0 _ rfl)
                  have m1 := (hB7.cell (p := ⟨gm, j * 6 + 1, none⟩) gml).trans (HC2.out 1 _ rfl)
                  have m2 := (hB7.cell (p := ⟨gm, j * 6 + 2, none⟩) gml).trans (HC2.out 2 _ rfl)
                  have m3 := (hB7.cell (p := ⟨gm, j * 6 + 3, none⟩) gml).trans (HC2.out 3 _ rfl)
                  have m4 := (hB7.cell (p := ⟨gm, j * 6 + 4, none⟩) gml).trans (HC2.out 4 _ rfl)
                  have m5 := (hB7.cell (p := ⟨gm, j * 6 + 5, none⟩) gml).trans (HC2.out 5 _ rfl)
                  have HB7 := Lib.hid hB7
                  clear hB7 hz7 x0 x1 x2 x3 x4 x5
                  go_quiet (fail)
                  go_wp2_with fail
                  go_roundw
                  case rel => exact ⟨j + 1, by go_num, (HOJ.out.on HB7.out).on (below_drewN (Below.refl _ _) _), (HMJ.out.on HB7.out).on (below_drewN (Below.refl _ _) _), (HKJ.out.on HB7.out).drewN _⟩
                  case measure => simp [intOf]; omega
              · have hji2 : ¬ (j : Int) < (i : Int) := by omega
                obtain ⟨ad2, g, e2, ea2, _, gl, _, hc1⟩ := HOJ.out.at HY.out
                cases e2
                have y0 := hc1 0 _ rfl
                simp only [Nat.add_zero] at y0
                have hyk := Q4.out k y HY.out
                rw [if_pos rfl] at hyk
                have HYK := Lib.hid hyk
                have HD := Lib.hid (HKJ.out.drop HS.out QG.out y.id)
                obtain ⟨bd, hbd⟩ : ∃ bd, (dropR13 b' y.id).1 = bd := ⟨_, rfl⟩
                rw [Q5.out, hbd, show errV s (({ y with lots := 2 }, 0) : Od × Nat).2 = .nilIface from rfl] at HD
                have Q7' := Q7.out
                rw [hbd] at Q7'
                have hD1 : ((i : Int) - 1) = (bd.L.length : Int) := by omega
                have hD2 : wrap64 ((i : Int) - 1) = (bd.L.length : Int) := by unfold wrap64; omega
                have hD3 : IntKind.i64.wrap ((i : Int) - 1) = (bd.L.length : Int) := by rw [IntWalk.i64_in _ (by omega)]; omega
                have hE : ∀ W : World, (Op.equalIn 10000 31 (.agg #[.int .i64 y.id, .int .i64 y.tn, .bool y.sell, .int .i64 y.price, .int .i64 2, .int .i64 y.seq]) (.agg #[.int .i64 y.id, .int .i64 y.tn, .bool y.sell, .int .i64 y.price, .int .i64 2, .int .i64 y.seq])).run Tryd.prog W = .ok true W := fun W => (eqBO { y with lots := 2 } { y with lots := 2 } W).trans (by rw [decide_eq_true rfl])
                generalize hDD : bd.L.length = D at hD1 hD2 hD3 Q7'
                have HDD := Lib.hid hDD
                clear hDD
                clear hyk hc1 hbd
                go_wp2_with fail
                refine HD.out.mono ?_
                rintro e w7 ⟨rfl, t7, g7⟩
                have HM7 : Hid (OwnE encOd 31 w7 B2 (.slice Am i cm) (M.map (atId y.id 2))) := Lib.hid (HMJ.out.same fun k' hk' => g7.block k' (HMJ.out.lt k' hk').2 (by have := (HMJ.out.lt k' hk').1; have := HW2.out; omega) (by have := (HMJ.out.lt k' hk').1; have := HW2.out; omega))
                obtain ⟨am, gm, rfl, eam, _, gml, _, hc2⟩ := HM7.out.at HYK.out
                have HK7 := Lib.hid t7
                have HC2 := Lib.hid hc2
                clear t7 g7 hc2 HMJ HKJ HOJ HD y0 ea2 gl
                go_wp2_with fail
                obtain ⟨W8, hW8⟩ : ∃ W8, W8 = w7.alloc (.cells #[.int .i64 y.id, .int .i64 y.tn, .bool y.sell, .int .i64 y.price, .int .i64 2, .int .i64 y.seq] 31) := ⟨_, rfl⟩
                have hB8 : Below w7.heap.size w7 W8 := by rw [hW8]; exact (Below.refl _ _).alloc (Nat.le_refl _) _
                have hz8 : BOdBlk W8 w7.heap.size { y with lots := 2 } := by rw [hW8]; exact BOdBlk.new _ { y with lots := 2 }
                rw [← hW8]
                clear hW8
                have HK8 := Lib.hid (HK7.out.on hB8)
                have HSS : Hid (∀ W : World, Below W8.heap.size W8 W → W.cell? ⟨w7.heap.size, 0, none⟩ = some (.int .i64 y.id) ∧ W.cell? ⟨w7.heap.size, 1, none⟩ = some (.int .i64 y.tn) ∧ W.cell? ⟨w7.heap.size, 2, none⟩ = some (.bool y.sell) ∧ W.cell? ⟨w7.heap.size, 3, none⟩ = some (.int .i64 y.price) ∧ W.cell? ⟨w7.heap.size, 4, none⟩ = some (.int .i64 2) ∧ W.cell? ⟨w7.heap.size, 5, none⟩ = some (.int .i64 y.seq) ∧ W.cell? ⟨gm, k * 6, none⟩ = some (.int .i64 y.id) ∧ W.cell? ⟨gm, k * 6 + 1, none⟩ = some (.int .i64 y.tn) ∧ W.cell? ⟨gm, k * 6 + 2, none⟩ = some (.bool y.sell) ∧ W.cell? ⟨gm, k * 6 + 3, none⟩ = some (.int .i64 y.price) ∧ W.cell? ⟨gm, k * 6 + 4, none⟩ = some (.int .i64 2) ∧ W.cell? ⟨gm, k * 6 + 5, none⟩ = some (.int .i64 y.seq) ∧ BkAt w W q R bd) := Lib.hid fun W hb => by
                  obtain ⟨z0, z1, z2, z3, z4, z5, zl⟩ := (hz8.on hb).cells
                  have hg8 : gm < W8.heap.size := Nat.lt_of_lt_of_le gml hB8.size
                  have m0 := (hb.cell (p := ⟨gm, k * 6, none⟩) hg8).trans ((hB8.cell (p := ⟨gm, k * 6, none⟩) gml).trans (HC2.out 0 _ rfl))
                  have m1 := (hb.cell (p := ⟨gm, k * 6 + 1, none⟩) hg8).trans ((hB8.cell (p := ⟨gm, k * 6 + 1, none⟩) gml).trans (HC2.out 1 _ rfl))
                  have m2 := (hb.cell (p := ⟨gm, k * 6 + 2, none⟩) hg8).trans ((hB8.cell (p := ⟨gm, k * 6 + 2, none⟩) gml).trans (HC2.out 2 _ rfl))
                  have m3 := (hb.cell (p := ⟨gm, k * 6 + 3, none⟩) hg8).trans ((hB8.cell (p := ⟨gm, k * 6 + 3, none⟩) gml).trans (HC2.out 3 _ rfl))
                  have m4 := (hb.cell (p := ⟨gm, k * 6 + 4, none⟩) hg8).trans ((hB8.cell (p := ⟨gm, k * 6 + 4, none⟩) gml).trans (HC2.out 4 _ rfl))
                  have m5 := (hb.cell (p := ⟨gm, k * 6 + 5, none⟩) hg8).trans ((hB8.cell (p := ⟨gm, k * 6 + 5, none⟩) gml).trans (HC2.out 5 _ rfl))
                  exact ⟨z0, z1, z2, z3, z4, z5, m0, m1, m2, m3, m4, m5, HK8.out.on hb⟩
                have HLEN : Hid (∀ W : World, BkAt w W q R bd → Calls Tryd.prog 20 #[.pointer (some ⟨q, 0, none⟩)] W fun e w' => e = .returned (.int .i64 (D : Int)) ∧ w' = W) := Lib.hid fun W h => by rw [← HDD.out]; exact h.size
                have HR8 := Lib.hid (Below.refl W8.heap.size W8)
                obtain ⟨z0, z1, z2, z3, z4, z5, m0, m1, m2, m3, m4, m5, hk8⟩ := HSS.out W8 HR8.out
                clear hB8 hz8
                go_region_held3 (fun W => W.cell? ⟨w7.heap.size, 0, none⟩ = some (.int .i64 y.id) ∧ W.cell? ⟨w7.heap.size, 1, none⟩ = some (.int .i64 y.tn) ∧ W.cell? ⟨w7.heap.size, 2, none⟩ = some (.bool y.sell) ∧ W.cell? ⟨w7.heap.size, 3, none⟩ = some (.int .i64 y.price) ∧ W.cell? ⟨w7.heap.size, 4, none⟩ = some (.int .i64 2) ∧ W.cell? ⟨w7.heap.size, 5, none⟩ = some (.int .i64 y.seq) ∧ W.cell? ⟨gm, k * 6, none⟩ = some (.int .i64 y.id) ∧ W.cell? ⟨gm, k * 6 + 1, none⟩ = some (.int .i64 y.tn) ∧ W.cell? ⟨gm, k * 6 + 2, none⟩ = some (.bool y.sell) ∧ W.cell? ⟨gm, k * 6 + 3, none⟩ = some (.int .i64 y.price) ∧ W.cell? ⟨gm, k * 6 + 4, none⟩ = some (.int .i64 2) ∧ W.cell? ⟨gm, k * 6 + 5, none⟩ = some (.int .i64 y.seq) ∧ BkAt w W q R bd)
                  (exact HSS.out _ (by (repeat' (first | (with_reducible exact Below.refl _ _) | (with_reducible refine below_drewN ?_ _) | (with_reducible refine Below.drew ?_) | (with_reducible refine Below.alloc ?_ ?_ _) | (with_reducible refine Below.setCell ?_ ?_ _) | (with_reducible refine Below.trans ?_ (Below.mono (by with_reducible assumption) ?_)) | omega | (simp only [World.size_alloc, World.size_setCell, World.size_drew, Go.Proofs.YtcbhilaecaccpaaDoor.World.size_drewN] at *; omega) | (with_reducible refine Below.size (B := 0) ?_)))))
                  (first | (go_at_call 20; refine (HLEN.out _ (by repeat' (first | (with_reducible assumption) | (with_reducible refine BkAt.drew ?_) | (with_reducible refine BkAt.drewN ?_ _)))).mono ?_; rintro e w9 ⟨rfl, rfl⟩))
                all_goals go_wp2_with fail
                all_goals go_ret
                have hD4 : IntKind.i64.wrap (D : Int) = (D : Int) := IntWalk.i64_in _ (by omega)
                all_goals exact ⟨by first | rfl | exact (ret_b (a := ((D : Int) == IntKind.i64.wrap (D : Int))) (b := true) (by rw [hD4]; simp)), by first | exact HK8.out.below | exact (HK8.out.drew).below | exact (HK8.out.drewN _).below⟩
end Go.Proofs.YtcbhilaecaccpaaDoor
