/- The walk of the law PurseBack: whatever the arguments, it returns true. Condition: the sentinels lie where the program's text lays them. -/
import Derived.Test.YtgioinjcgeepoaaDoorPuA
namespace Go.Proofs.YtgioinjcgeepoaaDoor
open Go Go.RowKit Go.Maps Go.Sort

theorem mod_any (i k : Int) (h0 : 0 < k) (h1 : k ≤ 4611686018427387904) : ∃ m : Int, 0 ≤ m ∧ m < k ∧ wrap64 ((IntKind.u64.wrap i).tmod k) = m := by
  have hw0 : 0 ≤ IntKind.u64.wrap i := by unfold IntKind.wrap; exact Int.emod_nonneg _ (by decide)
  refine ⟨(IntKind.u64.wrap i).tmod k, Int.tmod_nonneg _ hw0, Int.tmod_lt_of_pos _ h0, ?_⟩
  have := Int.tmod_nonneg k hw0
  have := Int.tmod_lt_of_pos (IntKind.u64.wrap i) h0
  unfold wrap64; omega
theorem purse_given {P : Pur} {x n : Int} (h : giveErr P n = 0) (y : Int) : purse (given P x n) y = if y = x then ((purse P x).1 + n, (purse P x).2) else purse P y := by
  unfold given; rw [if_pos h, purse_change]; simp
theorem purse_holds {P : Pur} {x n : Int} (h : takeErr P x n = 0) (y : Int) : purse (holds P x n) y = if y = x then ((purse P x).1 - n, (purse P x).2 + n) else purse P y := by
  unfold holds; rw [if_pos h, purse_change, Int.sub_eq_add_neg]
theorem purse_paid {P : Pur} {x n : Int} (h : payErr P x n = 0) (z y : Int) : purse (paid P x z n) y =
    if y = z then (if z = x then ((purse P x).1 + n, (purse P x).2 - n) else ((purse P z).1 + n, (purse P z).2)) else if y = x then ((purse P x).1, (purse P x).2 - n) else purse P y := by
  unfold paid; rw [if_pos h, purse_change]
  simp only [purse_change]
  by_cases k1 : y = z
  · by_cases k2 : z = x
    · simp [k1, k2, Int.sub_eq_add_neg]
    · simp [k1, k2]
  · by_cases k3 : y = x
    · subst k3; simp [k1, Int.sub_eq_add_neg]
    · simp [k1, k3]
theorem given_len (P : Pur) (x n : Int) : (given P x n).length ≤ P.length + 1 := by unfold given; split <;> first | exact change_len P x _ _ | omega
theorem holds_len (P : Pur) (x n : Int) : (holds P x n).length ≤ P.length + 1 := by unfold holds; split <;> first | exact change_len P x _ _ | omega
theorem paid_len (P : Pur) (x z n : Int) : (paid P x z n).length ≤ P.length + 2 := by
  unfold paid
  split
  · have := change_len P x 0 (-n); have := change_len (change P x 0 (-n)) z n 0; omega
  · omega

set_option maxHeartbeats 6400000 in
set_option maxRecDepth 100000 in
theorem back_any (s : Nat → Addr) (gi ho pa : Int) (sa : Bool) (w : World) (hs : Sent s w) :
    Calls Tryd.prog 4 #[.int .i64 gi, .int .i64 ho, .int .i64 pa, .bool sa] w fun e w' => e = .returned (.bool true) ∧ Below w.heap.size w w' := by
  have HS := Lib.hid hs; clear hs
  obtain ⟨g, g0, g1, eg⟩ := mod_any gi 1099511627776 (by decide) (by decide)
  obtain ⟨h, h0, h1, eh⟩ := mod_any ho (g + 1) (by omega) (by omega)
  obtain ⟨p, p0, p1, ep⟩ := mod_any pa (h + 1) (by omega) (by omega)
  have ug : IntKind.u64.wrap (g + 1) = g + 1 := by unfold IntKind.wrap; show (g + 1) % 18446744073709551616 = g + 1; omega
  have uh : IntKind.u64.wrap (h + 1) = h + 1 := by unfold IntKind.wrap; show (h + 1) % 18446744073709551616 = h + 1; omega
  have wg : wrap64 (g + 1) = g + 1 := by unfold wrap64; omega
  have wh : wrap64 (h + 1) = h + 1 := by unfold wrap64; omega
  have whp : wrap64 (h - p) = h - p := by unfold wrap64; omega
  have wgp : wrap64 (g - p) = g - p := by unfold wrap64; omega
  -- the purses in plain words
  have d1 : giveErr [] g = 0 := by unfold giveErr; rw [if_neg (by unfold amount; omega), if_neg (by show ¬ (1125899906842624 < (0 : Int) + g); omega)]
  obtain ⟨P1, hP1⟩ : ∃ P1, given [] 7 g = P1 := ⟨_, rfl⟩
  have l1 : P1.length ≤ 1 := by rw [← hP1]; exact given_len [] 7 g
  have e17 : purse P1 7 = (g, 0) := by rw [← hP1, purse_given d1]; show ((0 : Int) + g, (0 : Int)) = (g, 0); rw [Int.zero_add]
  have e18 : purse P1 8 = (0, 0) := by rw [← hP1, purse_given d1]; rfl
  have d2 : takeErr P1 7 h = 0 := by unfold takeErr; rw [if_neg (by unfold amount; omega), if_neg (by rw [e17]; show ¬ g < h; omega)]
  obtain ⟨P2, hP2⟩ : ∃ P2, holds P1 7 h = P2 := ⟨_, rfl⟩
  have l2 : P2.length ≤ 2 := by rw [← hP2]; have := holds_len P1 7 h; omega
  have e27 : purse P2 7 = (g - h, h) := by rw [← hP2, purse_holds d2, if_pos rfl, e17]; simp
  have e28 : purse P2 8 = (0, 0) := by rw [← hP2, purse_holds d2, if_neg (by decide), e18]
  have d3 : payErr P2 7 p = 0 := by unfold payErr; rw [if_neg (by unfold amount; omega), if_neg (by rw [e27]; show ¬ h < p; omega)]
  go_enter Tryd.func4, Tryd.ntmps4
  have HF := And.intro g0 (And.intro g1 (And.intro h0 (And.intro h1 (And.intro p0 p1))))
  have HFF := Lib.hid HF
  have HE := Lib.hid (And.intro e17 (And.intro e18 (And.intro e27 e28)))
  have HD := Lib.hid (And.intro d1 (And.intro d2 d3))
  have HL := Lib.hid (And.intro l1 l2)
  have HP := Lib.hid (And.intro hP1 hP2)
  clear HF e17 e18 e27 e28 d1 d2 d3 l1 l2 hP1 hP2
  go_wp2_with fail
  refine (awake_c s _ HS.out).mono ?_
  rintro e w1 ⟨rfl, b1⟩
  have HB1 := Lib.hid b1; clear b1
  go_wp2_with fail
  refine (pnew_c _).mono ?_
  rintro e w2 ⟨q, b, rfl, t2, b2, lb, lq⟩
  have K2 : Hid (PuAt w w2 q b []) := Lib.hid ⟨t2, HB1.out.trans (b2.mono HB1.out.size), Nat.le_trans HB1.out.size lq, Nat.le_trans HB1.out.size lb⟩
  clear t2 b2 lb lq HB1
  cases sa with
  | true => as_aux_lemma =>
    have d4 : Hid (payErr (paid P2 7 7 p) 7 (h - p) = 0) := Lib.hid (by
      have := HFF.out
      unfold payErr; rw [if_neg (by unfold amount; omega), if_neg (by rw [purse_paid HD.out.2.2, if_pos rfl, if_pos rfl, HE.out.2.2.1]; show ¬ h - p < h - p; omega)])
    have e47 : Hid (purse (paid (paid P2 7 7 p) 7 7 (h - p)) 7 = (g, 0)) := Lib.hid (by
      rw [purse_paid d4.out, if_pos rfl, if_pos rfl, purse_paid HD.out.2.2, if_pos rfl, if_pos rfl, HE.out.2.2.1]
      show (g - h + p + (h - p), h - p - (h - p)) = (g, 0)
      rw [Prod.mk.injEq]; omega)
    have l3 : Hid ((paid P2 7 7 p).length ≤ 4) := Lib.hid (by have := paid_len P2 7 7 p; have := HL.out.2; omega)
    have hE := eqP
    have eqq : (g == g && (0 : Int) == 0) = true := by simp
    go_wp2_with fail
    refine (give_c s q b _ 7 g _ (K2.out.sent HS.out) K2.out.book (by decide) (by decide) (by decide)).mono ?_
    rw [HD.out.1, HP.out.1]
    rintro e w3 ⟨rfl, t3, k3⟩
    have K3 := Lib.hid (K2.out.chg t3 k3); clear K2 t3 k3
    rw [errV_none]
    go_wp2_with fail
    refine (hold_c s q b _ 7 h _ (K3.out.sent HS.out) K3.out.book (by decide) (by decide) (by have := HL.out.1; omega)).mono ?_
    rw [HD.out.2.1, HP.out.2]
    rintro e w4 ⟨rfl, t4, k4⟩
    have K4 := Lib.hid (K3.out.chg t4 k4); clear K3 t4 k4
    rw [errV_none]
    go_wp2_with fail
    refine (pay_c s q b _ 7 7 p _ (K4.out.sent HS.out) K4.out.book (by decide) (by decide) (by decide) (by decide) (by have := HL.out.2; omega)).mono ?_
    rw [HD.out.2.2]
    rintro e w5 ⟨rfl, t5, k5⟩
    have K5 := Lib.hid (K4.out.chg t5 k5); clear K4 t5 k5
    rw [errV_none]
    go_wp2_with fail
    refine (unhold_c s q b _ 7 (h - p) _ (K5.out.sent HS.out) K5.out.book (by decide) (by decide) (by have := l3.out; omega)).mono ?_
    rw [d4.out]
    rintro e w6 ⟨rfl, t6, k6⟩
    have K6 := Lib.hid (K5.out.chg t6 k6); clear K5 t6 k6
    rw [errV_none]
    go_wp2_with fail
    refine (of_c q b _ 7 _ K6.out.book (by decide) (by decide)).mono ?_
    rw [e47.out]
    rintro e w7 ⟨rfl, b7⟩
    have K7 := Lib.hid (K6.out.on b7); clear K6 b7
    go_wp2_with fail
    go_ret
    exact ⟨rfl, K7.out.below⟩
  | false => as_aux_lemma =>
    have d4 : Hid (payErr (paid P2 7 8 p) 7 (h - p) = 0) := Lib.hid (by
      have := HFF.out
      unfold payErr; rw [if_neg (by unfold amount; omega), if_neg (by rw [purse_paid HD.out.2.2, if_neg (by decide), if_pos rfl, HE.out.2.2.1]; show ¬ h - p < h - p; omega)])
    have e47 : Hid (purse (paid (paid P2 7 8 p) 7 7 (h - p)) 7 = (g - p, 0)) := Lib.hid (by
      rw [purse_paid d4.out, if_pos rfl, if_pos rfl, purse_paid HD.out.2.2, if_neg (by decide), if_pos rfl, HE.out.2.2.1]
      show (g - h + (h - p), h - p - (h - p)) = (g - p, 0)
      rw [Prod.mk.injEq]; omega)
    have e48 : Hid (purse (paid (paid P2 7 8 p) 7 7 (h - p)) 8 = (p, 0)) := Lib.hid (by
      rw [purse_paid d4.out, if_neg (by decide), if_neg (by decide), purse_paid HD.out.2.2, if_pos rfl, if_neg (by decide), HE.out.2.2.2]
      show ((0 : Int) + p, (0 : Int)) = (p, 0)
      rw [Int.zero_add])
    have d5 : Hid (payErr (paid (paid P2 7 8 p) 7 7 (h - p)) 7 1 = 13) := Lib.hid (by
      unfold payErr; rw [if_neg (by unfold amount; omega), if_pos (by rw [e47.out]; show (0 : Int) < 1; decide)])
    have l3 : Hid ((paid P2 7 8 p).length ≤ 4) := Lib.hid (by have := paid_len P2 7 8 p; have := HL.out.2; omega)
    have l4 : Hid ((paid (paid P2 7 8 p) 7 7 (h - p)).length ≤ 6) := Lib.hid (by have := paid_len (paid P2 7 8 p) 7 7 (h - p); have := l3.out; omega)
    have hE := eqP
    have eqq : (g - p == g - p && (0 : Int) == 0) = true := by simp
    have eqr : (p == p && (0 : Int) == 0) = true := by simp
    go_wp2_with fail
    refine (give_c s q b _ 7 g _ (K2.out.sent HS.out) K2.out.book (by decide) (by decide) (by decide)).mono ?_
    rw [HD.out.1, HP.out.1]
    rintro e w3 ⟨rfl, t3, k3⟩
    have K3 := Lib.hid (K2.out.chg t3 k3); clear K2 t3 k3
    rw [errV_none]
    go_wp2_with fail
    refine (hold_c s q b _ 7 h _ (K3.out.sent HS.out) K3.out.book (by decide) (by decide) (by have := HL.out.1; omega)).mono ?_
    rw [HD.out.2.1, HP.out.2]
    rintro e w4 ⟨rfl, t4, k4⟩
    have K4 := Lib.hid (K3.out.chg t4 k4); clear K3 t4 k4
    rw [errV_none]
    go_wp2_with fail
    refine (pay_c s q b _ 7 8 p _ (K4.out.sent HS.out) K4.out.book (by decide) (by decide) (by decide) (by decide) (by have := HL.out.2; omega)).mono ?_
    rw [HD.out.2.2]
    rintro e w5 ⟨rfl, t5, k5⟩
    have K5 := Lib.hid (K4.out.chg t5 k5); clear K4 t5 k5
    rw [errV_none]
    go_wp2_with fail
    refine (unhold_c s q b _ 7 (h - p) _ (K5.out.sent HS.out) K5.out.book (by decide) (by decide) (by have := l3.out; omega)).mono ?_
    rw [d4.out]
    rintro e w6 ⟨rfl, t6, k6⟩
    have K6 := Lib.hid (K5.out.chg t6 k6); clear K5 t6 k6
    rw [errV_none]
    go_wp2_with fail
    refine (of_c q b _ 7 _ K6.out.book (by decide) (by decide)).mono ?_
    rw [e47.out]
    rintro e w7 ⟨rfl, b7⟩
    have K7 := Lib.hid (K6.out.on b7); clear K6 b7
    go_wp2_with fail
    refine (of_c q b _ 8 _ K7.out.book (by decide) (by decide)).mono ?_
    rw [e48.out]
    rintro e w8 ⟨rfl, b8⟩
    have K8 := Lib.hid (K7.out.on b8); clear K7 b8
    go_wp2_with fail
    refine (unhold_c s q b _ 7 1 _ (K8.out.sent HS.out) K8.out.book (by decide) (by decide) (by have := l4.out; omega)).mono ?_
    rw [d5.out]
    rintro e w9 ⟨rfl, t9, k9⟩
    have K9 := Lib.hid (K8.out.chg t9 k9); clear K8 t9 k9
    go_wp2_with fail
    refine (kind_errV s 13 _ (K9.out.sent HS.out) (by omega)).mono ?_
    rintro e w10 ⟨rfl, b10⟩
    have K10 := Lib.hid (K9.out.on b10); clear K9 b10
    go_wp2_with fail
    go_ret
    exact ⟨rfl, K10.out.below⟩
end Go.Proofs.YtgioinjcgeepoaaDoor
