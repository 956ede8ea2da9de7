/- The walk of the law GrantRound: whatever the arguments, it returns true. Condition: the sentinels lie where the program's text lays them. -/
import Derived.Test.YtpgioihmaodlcaaDoorGrA
import Derived.Test.YtpgioihmaodlcaaDoorRgo
namespace Go.Proofs.YtpgioihmaodlcaaDoor
open Go Go.RowKit Go.Maps Go.Sort

/-! ### one account -/
theorem mod_30 (i : Int) : ∃ m : Int, 0 ≤ m ∧ m < 1073741824 ∧ wrap64 ((IntKind.u64.wrap i).tmod 1073741824) = m := by
  have hu : 0 ≤ IntKind.u64.wrap i := by rw [IntKind.wrap_u64]; omega
  have e : (IntKind.u64.wrap i).tmod 1073741824 = IntKind.u64.wrap i % 1073741824 := Int.tmod_eq_emod_of_nonneg hu
  refine ⟨IntKind.u64.wrap i % 1073741824, by omega, by omega, ?_⟩
  rw [e]
  generalize IntKind.u64.wrap i = z
  unfold wrap64; omega
def one (k : V4) (x : Acc) : Grs := [(k, x)]
theorem one_len (k : V4) (x : Acc) : (one k x).length + 1 < 1000000 := show 1 + 1 < 1000000 by decide
theorem one_le (k : V4) (x : Acc) : (one k x).length ≤ 1000000 := show 1 ≤ 1000000 by decide
theorem acc_one (k : V4) (x : Acc) : acc (one k x) k = x := by unfold acc one look; rw [if_pos rfl]; rfl
theorem chT_one {k : V4} {x l m n : Acc} (h : chA x l m = n) (h0 : n ≠ zA) : chT (one k x) k l m = one k n := by
  unfold chT
  rw [acc_one, h, if_neg h0]
  unfold enter one
  rw [strike_cons, if_pos rfl]
  rfl
theorem chT_gone {k : V4} {x l m : Acc} (h : chA x l m = zA) : chT (one k x) k l m = [] := by
  unfold chT
  rw [acc_one, h, if_pos rfl]
  unfold one
  rw [strike_cons, if_pos rfl]
  rfl
theorem chT_new {k : V4} {l m n : Acc} (h : chA zA l m = n) (h0 : n ≠ zA) : chT [] k l m = one k n := by
  unfold chT
  rw [show acc [] k = zA from rfl, h, if_neg h0]
  rfl
theorem moves_in (v : V4) : moves z4 z4 v = v := comp_ext fun r => by rw [comp_moves, comp_z4]; omega
theorem moves_out (v : V4) : moves v v z4 = z4 := comp_ext fun r => by rw [comp_moves, comp_z4]; omega
theorem moves_no : moves z4 z4 z4 = z4 := rfl
theorem chA_new (v : V4) : chA zA zA (fA v) = fA v := Acc.eq (moves_in v) moves_no moves_no
theorem chA_fc (v : V4) : chA (fA v) (fA v) (cA v) = cA v := Acc.eq (moves_out v) (moves_in v) moves_no
theorem chA_cf (v : V4) : chA (cA v) (cA v) (fA v) = fA v := Acc.eq (moves_in v) (moves_out v) moves_no
theorem chA_fh (v : V4) : chA (fA v) (fA v) (hA v) = hA v := Acc.eq (moves_out v) moves_no (moves_in v)
theorem chA_hz (v : V4) : chA (hA v) (hA v) zA = zA := Acc.eq moves_no moves_no (moves_out v)
theorem chA_fz (v : V4) : chA (fA v) (fA v) zA = zA := Acc.eq (moves_out v) moves_no moves_no
/-- What is known of the amount that goes round. -/
structure Amt (v : V4) : Prop where
  good : goodV v = true
  self : fitsV v v = true
  not : fitsV v z4 = false
  nz : v ≠ z4
theorem amt_of {a b : Int} (ha : 0 ≤ a) (ha2 : a < 1073741824) (hb : 0 ≤ b) (hb2 : b < 1073741824) : Amt ⟨a, b, 1, 0⟩ where
  good := good_comp.2 fun r => by rcases r with _ | _ | _ | r <;> simp only [comp] <;> omega
  self := fits_comp.2 fun r => Int.le_refl _
  not := by
    cases h : fitsV ⟨a, b, 1, 0⟩ z4
    · rfl
    · have := fits_comp.1 h 2
      rw [comp_z4] at this
      simp only [comp] at this
      omega
  nz := fun h => by have := congrArg V4.c h; simp [z4] at this
section
variable {v : V4} (h : Amt v) (k : V4)
include h
theorem Amt.fz : fA v ≠ zA := fun e => h.nz (congrArg Acc.f e)
theorem Amt.cz : cA v ≠ zA := fun e => h.nz (congrArg Acc.c e)
theorem Amt.hz : hA v ≠ zA := fun e => h.nz (congrArg Acc.h e)
theorem Amt.give0 : giveErr [] k v = 0 := by
  unfold giveErr
  rw [if_pos h.good, if_pos]
  rw [show pv (issV [] k) v = v from comp_ext fun r => by rw [comp_pv, show issV [] k = z4 from rfl, comp_z4]; omega]
  exact h.good
theorem Amt.give : given [] k v = one k (fA v) := by unfold given; rw [if_pos (h.give0 k)]; exact chT_new (chA_new v) h.fz
theorem Amt.take0 : takeErr (one k (fA v)) k v = 0 := by unfold takeErr; rw [if_pos h.good, acc_one, show (fA v).f = v from rfl, h.self]; rfl
theorem Amt.charge : charged (one k (fA v)) k v = one k (cA v) := by unfold charged; rw [if_pos (h.take0 k)]; exact chT_one (chA_fc v) h.cz
theorem Amt.hold8 : takeErr (one k (cA v)) k v = 8 := by unfold takeErr; rw [if_pos h.good, acc_one, show (cA v).f = z4 from rfl, h.not]; rfl
theorem Amt.holdNo : holds (one k (cA v)) k v = one k (cA v) := by unfold holds; rw [h.hold8 k]; rfl
theorem Amt.back0 : backErr (acc (one k (cA v)) k).c v = 0 := by unfold backErr; rw [if_pos h.good, acc_one, show (cA v).c = v from rfl, h.self]; rfl
theorem Amt.uncharge : uncharged (one k (cA v)) k v = one k (fA v) := by unfold uncharged; rw [if_pos (h.back0 k)]; exact chT_one (chA_cf v) h.fz
theorem Amt.hold : holds (one k (fA v)) k v = one k (hA v) := by unfold holds; rw [if_pos (h.take0 k)]; exact chT_one (chA_fh v) h.hz
theorem Amt.back13 : backErr (acc (one k (hA v)) k).c v = 13 := by unfold backErr; rw [if_pos h.good, acc_one, show (hA v).c = z4 from rfl, h.not]; rfl
theorem Amt.unchargeNo : uncharged (one k (hA v)) k v = one k (hA v) := by unfold uncharged; rw [h.back13 k]; rfl
theorem Amt.pass0 : backErr (acc (one k (hA v)) k).h v = 0 := by unfold backErr; rw [if_pos h.good, acc_one, show (hA v).h = v from rfl, h.self]; rfl
theorem Amt.pass (t : Int) : passed (one k (hA v)) k t v = one (atT k t) (fA v) := by unfold passed; rw [if_pos (h.pass0 k), chT_gone (chA_hz v)]; exact chT_new (chA_new v) h.fz
theorem Amt.move (t : Int) : moved (one k (fA v)) k t v = one (atT k t) (fA v) := by unfold moved; rw [if_pos (h.take0 k), chT_gone (chA_fz v)]; exact chT_new (chA_new v) h.fz
theorem Amt.take : taken (one k (fA v)) k v = [] := by unfold taken; rw [if_pos (h.take0 k)]; exact chT_gone (chA_fz v)
omit h in
theorem Amt.iss (t : Int) : issV (one (atT k t) (fA v)) k = v := comp_ext fun r => by
  rw [comp_issV]
  unfold Proofs.YtpgioihmaodlcaaDoor.iss one
  rw [totK_cons]
  unfold part1
  rw [if_pos (show sameP (atT k t) k = true from sameP_self k), allOf_fA]
  unfold totK
  simp
end
/-- The book, the key, the amount, the other key: each in a block of its own. -/
structure RB (w0 : World) (q b X Y O : Nat) (k v o : V4) (T : Grs) (W : World) : Prop where
  ga : GaAt w0 W q b T
  key : KyB W X k
  vec : Vb W Y v
  oth : KyB W O o
  nX : X ≠ b
  nY : Y ≠ b
  nO : O ≠ b
section
variable {w0 W W' : World} {q b X Y O : Nat} {k v o : V4} {T T' : Grs}
theorem RB.on (h : RB w0 q b X Y O k v o T W) (hb : Below W.heap.size W W') : RB w0 q b X Y O k v o T W' := ⟨h.ga.on hb, h.key.on hb, h.vec.below hb (lt_of_row h.vec), h.oth.on hb, h.nX, h.nY, h.nO⟩
theorem RB.drew (h : RB w0 q b X Y O k v o T W) : RB w0 q b X Y O k v o T W.drew := h.on (Below.drew (Below.refl _ _))
theorem RB.chg (h : RB w0 q b X Y O k v o T W) (t : BookAt W' q b T') (hg : Chg b b W W') : RB w0 q b X Y O k v o T' W' := ⟨h.ga.chg t hg, h.key.chg hg h.nX h.nX, hg.row h.vec h.nY h.nY, h.oth.chg hg h.nO h.nO, h.nX, h.nY, h.nO⟩
theorem RB.cells (h : RB w0 q b X Y O k v o T W) : (W.cell? ⟨X, 0, none⟩ = some (.int .i64 k.a) ∧ W.cell? ⟨X, 1, none⟩ = some (.int .i64 k.b) ∧ W.cell? ⟨X, 2, none⟩ = some (.int .i64 k.c) ∧ W.cell? ⟨X, 3, none⟩ = some (.int .i64 k.d)) ∧
    (W.cell? ⟨Y, 0, none⟩ = some (.int .i64 v.a) ∧ W.cell? ⟨Y, 1, none⟩ = some (.int .i64 v.b) ∧ W.cell? ⟨Y, 2, none⟩ = some (.int .i64 v.c) ∧ W.cell? ⟨Y, 3, none⟩ = some (.int .i64 v.d)) ∧
    (W.cell? ⟨O, 0, none⟩ = some (.int .i64 o.a) ∧ W.cell? ⟨O, 1, none⟩ = some (.int .i64 o.b) ∧ W.cell? ⟨O, 2, none⟩ = some (.int .i64 o.c) ∧ W.cell? ⟨O, 3, none⟩ = some (.int .i64 o.d)) := ⟨h.key.cells, vb_cells h.vec, h.oth.cells⟩
/-- .. of the book only that it is one. -/
def RC (w0 : World) (q b X Y O : Nat) (k v o : V4) (W : World) : Prop := ∃ T, RB w0 q b X Y O k v o T W
end

set_option maxHeartbeats 6400000 in
set_option maxRecDepth 100000 in
theorem ground_any (s : Nat → Addr) (k : V4) (t x y : Int) (w : World) (hs : Sent s w) (hk : okV k) (ht : i64 t) :
    Calls Tryd.prog 4 #[.agg #[.int .i64 k.a, .int .i64 k.b, .int .i64 k.c, .int .i64 k.d], .int .i64 t, .int .i64 x, .int .i64 y] w fun e w' => e = .returned (.bool true) ∧ Below w.heap.size w w' := by
  have HS := Lib.hid hs; have HK := Lib.hid hk; have HT := Lib.hid ht
  clear hs hk ht
  go_enter Tryd.func4, Tryd.ntmps4
  go_wp2_with fail
  have HB0 : Hid (Below w.heap.size w (w.alloc (.cells #[.int .i64 k.a, .int .i64 k.b, .int .i64 k.c, .int .i64 k.d] 31))) := Lib.hid ((Below.refl _ w).alloc (Nat.le_refl _) _)
  refine (awake_c s _ (HS.out.below HB0.out (Nat.le_refl _))).mono ?_
  rintro e w1 ⟨rfl, b1⟩
  have HB1 := Lib.hid (HB0.out.trans (b1.mono HB0.out.size))
  obtain ⟨X, hX⟩ : ∃ X, w.heap.size = X := ⟨_, rfl⟩
  have HX1 : Hid (KyB w1 X k) := Lib.hid (by rw [← hX]; exact (KyB.new w k).on b1)
  have HXX := Lib.hid hX
  rw [hX]
  clear b1 hX HB0
  go_wp2_with fail
  refine (gnew_c _).mono ?_
  rintro e w2 ⟨q, b, rfl, t2, b2, lb, lq⟩
  have HK2 : Hid (GaAt w w2 q b []) := Lib.hid ⟨t2, HB1.out.trans (b2.mono HB1.out.size), Nat.le_trans HB1.out.size lq, Nat.le_trans HB1.out.size lb⟩
  have HX2 := Lib.hid (HX1.out.on b2)
  have HNX : Hid (X ≠ b) := Lib.hid (by have := HX1.out.lt; omega)
  clear t2 b2 lb lq HX1 HB1
  obtain ⟨m, m0, m1, hm⟩ := mod_30 x
  obtain ⟨n, n0, n1, hn⟩ := mod_30 y
  have HA := Lib.hid (amt_of m0 m1 n0 n1)
  obtain ⟨v, hv⟩ : ∃ v : V4, (⟨m, n, 1, 0⟩ : V4) = v := ⟨_, rfl⟩
  rw [hv] at HA
  have HM := Lib.hid hm; have HN := Lib.hid hn; have HVV := Lib.hid hv
  have ea : m = v.a := by rw [← hv]
  have eb : n = v.b := by rw [← hv]
  have HEA := Lib.hid ea; have HEB := Lib.hid eb
  have HEC : Hid ((1 : Int) = v.c ∧ (0 : Int) = v.d) := Lib.hid ⟨by rw [← hv], by rw [← hv]⟩
  clear hm hn hv m0 m1 n0 n1 ea eb
  go_upto_region 5 with fail
  rw [HM.out, HN.out, HEA.out, HEB.out]
  obtain ⟨Y, hY⟩ : ∃ Y, w2.heap.size = Y := ⟨_, rfl⟩
  obtain ⟨W3, hW3⟩ : ∃ W3, w2.alloc (.cells #[.int .i64 v.a, .int .i64 v.b, .int .i64 1, .int .i64 0] 29) = W3 := ⟨_, rfl⟩
  have HK3 : Hid (GaAt w W3 q b []) := Lib.hid (by rw [← hW3]; exact HK2.out.alloc _)
  have HX3 : Hid (KyB W3 X k) := Lib.hid (by rw [← hW3]; exact HX2.out.alloc _)
  have HV3 : Hid (Vb W3 Y v) := Lib.hid (by
    have := Vb.new_at hY.symm v
    rw [← HEC.out.1, ← HEC.out.2, hW3] at this
    exact this)
  have HNY : Hid (Y ≠ b) := Lib.hid (by have := HK2.out.book.map.lt; omega)
  rw [hW3, hY]
  clear hW3 hY HK2 HX2
  obtain ⟨x0, x1, x2, x3⟩ := HX3.out.cells
  have xl := HX3.out.lt
  go_upto_region 7 with fail
  obtain ⟨O, hO⟩ : ∃ O, W3.heap.size = O := ⟨_, rfl⟩
  obtain ⟨W4, hW4⟩ : ∃ W4, W3.alloc (.cells #[.int .i64 t, .int .i64 k.b, .int .i64 k.c, .int .i64 k.d] 31) = W4 := ⟨_, rfl⟩
  have K0 : Hid (RB w q b X Y O k v (atT k t) [] W4) := Lib.hid (by
    rw [← hW4]
    exact ⟨HK3.out.alloc _, HX3.out.alloc _, HV3.out.alloc _, by rw [← hO]; exact KyB.new W3 (atT k t), HNX.out, HNY.out, by have := HK3.out.book.map.lt; omega⟩)
  have HOO : Hid (okV (atT k t)) := Lib.hid ⟨HT.out, HK.out.2⟩
  rw [hW4, hO]
  clear hW4 hO HK3 HX3 HV3 x0 x1 x2 x3 xl HVV HM HN HEA HEB HEC m n HNX HNY
  obtain ⟨⟨k0, k1, k2, k3⟩, ⟨v0, v1, v2, v3⟩, _⟩ := K0.out.cells
  go_wp2_with fail
  clear k0 k1 k2 k3 v0 v1 v2 v3
  refine (give_c s q b [] k v _ (K0.out.ga.sent HS.out) K0.out.ga.book HK.out (by decide)).mono ?_
  rw [HA.out.give0 k, HA.out.give k, errV_zero]
  rintro e u1 ⟨rfl, t1, g1⟩
  have K1 : Hid (RB w q b X Y O k v (atT k t) (one k (fA v)) u1) := Lib.hid (K0.out.chg t1 g1)
  clear K0 t1 g1
  obtain ⟨⟨k0, k1, k2, k3⟩, ⟨v0, v1, v2, v3⟩, _⟩ := K1.out.cells
  go_wp2_with fail
  clear k0 k1 k2 k3 v0 v1 v2 v3
  refine (charge_c s q b (one k (fA v)) k v _ (K1.out.ga.sent HS.out) (K1.out.ga.nots HS.out) K1.out.ga.book HK.out (one_len _ _)).mono ?_
  rw [HA.out.take0 k, HA.out.charge k, errV_zero]
  rintro e u2 ⟨rfl, t2, g2⟩
  have K2 : Hid (RB w q b X Y O k v (atT k t) (one k (cA v)) u2) := Lib.hid (K1.out.chg t2 g2)
  clear K1 t2 g2
  obtain ⟨⟨k0, k1, k2, k3⟩, ⟨v0, v1, v2, v3⟩, _⟩ := K2.out.cells
  go_wp2_with fail
  clear k0 k1 k2 k3 v0 v1 v2 v3
  refine (hold_c s q b (one k (cA v)) k v _ (K2.out.ga.sent HS.out) (K2.out.ga.nots HS.out) K2.out.ga.book HK.out (one_len _ _)).mono ?_
  rw [HA.out.hold8 k, HA.out.holdNo k]
  rintro e u3 ⟨rfl, t3, g3⟩
  have K3 : Hid (RB w q b X Y O k v (atT k t) (one k (cA v)) u3) := Lib.hid (K2.out.chg t3 g3)
  clear K2 t3 g3
  go_wp2_with fail
  refine (kind_errV s 8 _ (K3.out.ga.sent HS.out) (by omega)).mono ?_
  rintro e u4 ⟨rfl, r4⟩
  have K4 := Lib.hid (K3.out.on r4)
  clear K3 r4
  obtain ⟨⟨k0, k1, k2, k3⟩, ⟨v0, v1, v2, v3⟩, _⟩ := K4.out.cells
  go_wp2_with fail
  clear k0 k1 k2 k3 v0 v1 v2 v3
  refine (uncharge_c s q b (one k (cA v)) k v _ (K4.out.ga.sent HS.out) (K4.out.ga.nots HS.out) K4.out.ga.book HK.out (one_len _ _)).mono ?_
  rw [HA.out.back0 k, HA.out.uncharge k, errV_zero]
  rintro e u5 ⟨rfl, t5, g5⟩
  have K5 : Hid (RB w q b X Y O k v (atT k t) (one k (fA v)) u5) := Lib.hid (K4.out.chg t5 g5)
  clear K4 t5 g5
  obtain ⟨⟨k0, k1, k2, k3⟩, ⟨v0, v1, v2, v3⟩, _⟩ := K5.out.cells
  go_wp2_with fail
  clear k0 k1 k2 k3 v0 v1 v2 v3
  refine (hold_c s q b (one k (fA v)) k v _ (K5.out.ga.sent HS.out) (K5.out.ga.nots HS.out) K5.out.ga.book HK.out (one_len _ _)).mono ?_
  rw [HA.out.take0 k, HA.out.hold k, errV_zero]
  rintro e u6 ⟨rfl, t6, g6⟩
  have K6 : Hid (RB w q b X Y O k v (atT k t) (one k (hA v)) u6) := Lib.hid (K5.out.chg t6 g6)
  clear K5 t6 g6
  obtain ⟨⟨k0, k1, k2, k3⟩, ⟨v0, v1, v2, v3⟩, _⟩ := K6.out.cells
  go_wp2_with fail
  clear k0 k1 k2 k3 v0 v1 v2 v3
  refine (uncharge_c s q b (one k (hA v)) k v _ (K6.out.ga.sent HS.out) (K6.out.ga.nots HS.out) K6.out.ga.book HK.out (one_len _ _)).mono ?_
  rw [HA.out.back13 k, HA.out.unchargeNo k]
  rintro e u7 ⟨rfl, t7, g7⟩
  have K7 : Hid (RB w q b X Y O k v (atT k t) (one k (hA v)) u7) := Lib.hid (K6.out.chg t7 g7)
  clear K6 t7 g7
  go_wp2_with fail
  refine (kind_errV s 13 _ (K7.out.ga.sent HS.out) (by omega)).mono ?_
  rintro e u8 ⟨rfl, r8⟩
  have K8 := Lib.hid (K7.out.on r8)
  clear K7 r8
  obtain ⟨⟨k0, k1, k2, k3⟩, ⟨v0, v1, v2, v3⟩, _⟩ := K8.out.cells
  go_wp2_with fail
  clear k0 k1 k2 k3 v0 v1 v2 v3
  refine (pass_c s q b (one k (hA v)) k t v _ (K8.out.ga.sent HS.out) (K8.out.ga.nots HS.out) K8.out.ga.book HK.out HT.out (one_len _ _)).mono ?_
  rw [HA.out.pass0 k, HA.out.pass k t, errV_zero]
  rintro e u9 ⟨rfl, t9, g9⟩
  have K9 : Hid (RB w q b X Y O k v (atT k t) (one (atT k t) (fA v)) u9) := Lib.hid (K8.out.chg t9 g9)
  clear K8 t9 g9
  go_wp2_with fail
  have HO1 : Hid (∀ W, RB w q b X Y O k v (atT k t) (one (atT k t) (fA v)) W → Calls Tryd.prog 8 #[.pointer (some ⟨q, 0, none⟩), .agg #[.int .i64 t, .int .i64 k.b, .int .i64 k.c, .int .i64 k.d]] W fun e w' => e = .returned (.agg #[.int .i64 v.a, .int .i64 v.b, .int .i64 v.c, .int .i64 v.d, .int .i64 0, .int .i64 0, .int .i64 0, .int .i64 0, .int .i64 0, .int .i64 0, .int .i64 0, .int .i64 0]) ∧ Below W.heap.size W w') := Lib.hid fun W h => (of_c q b (one (atT k t) (fA v)) (atT k t) W h.ga.book HOO.out).mono fun _ _ c => ⟨by have c1 := c.1; rw [acc_one] at c1; exact c1, c.2⟩
  have HI1 : Hid (∀ W, RB w q b X Y O k v (atT k t) (one (atT k t) (fA v)) W → Calls Tryd.prog 11 #[.pointer (some ⟨q, 0, none⟩), .agg #[.int .i64 k.b, .int .i64 k.c, .int .i64 k.d]] W fun e w' => e = .returned (.agg #[.int .i64 v.a, .int .i64 v.b, .int .i64 v.c, .int .i64 v.d]) ∧ Below W.heap.size W w') := Lib.hid fun W h => (bissued_c s q b (one (atT k t) (fA v)) k W (h.ga.sent HS.out) h.ga.book (one_le _ _)).mono fun _ _ c => ⟨by have c1 := c.1; rw [Amt.iss k t] at c1; exact c1, c.2⟩
  have HV1 : Hid (∀ W, RB w q b X Y O k v (atT k t) (one (atT k t) (fA v)) W → Calls Tryd.prog 19 #[.pointer (some ⟨q, 0, none⟩), .agg #[.int .i64 t, .int .i64 k.b, .int .i64 k.c, .int .i64 k.d], .int .i64 k.a, .agg #[.int .i64 v.a, .int .i64 v.b, .int .i64 v.c, .int .i64 v.d]] W fun e w' => e = .returned .nilIface ∧ RB w q b X Y O k v (atT k t) (one k (fA v)) w') := Lib.hid fun W h => (move_c s q b (one (atT k t) (fA v)) (atT k t) k.a v W (h.ga.sent HS.out) (h.ga.nots HS.out) h.ga.book HOO.out HK.out.1 (one_len _ _)).mono fun _ _ c => ⟨by have c1 := c.1; rw [HA.out.take0 (atT k t), errV_zero] at c1; exact c1, h.chg (by have c2 := c.2.1; rw [HA.out.move (atT k t) k.a] at c2; exact c2) c.2.2⟩
  have HO2 : Hid (∀ W, RB w q b X Y O k v (atT k t) (one k (fA v)) W → Calls Tryd.prog 8 #[.pointer (some ⟨q, 0, none⟩), .agg #[.int .i64 k.a, .int .i64 k.b, .int .i64 k.c, .int .i64 k.d]] W fun e w' => e = .returned (.agg #[.int .i64 v.a, .int .i64 v.b, .int .i64 v.c, .int .i64 v.d, .int .i64 0, .int .i64 0, .int .i64 0, .int .i64 0, .int .i64 0, .int .i64 0, .int .i64 0, .int .i64 0]) ∧ Below W.heap.size W w') := Lib.hid fun W h => (of_c q b (one k (fA v)) k W h.ga.book HK.out).mono fun _ _ c => ⟨by have c1 := c.1; rw [acc_one] at c1; exact c1, c.2⟩
  have hE1 := fun W => (eqAc (fA v) (fA v) W).trans (by rw [decide_eq_true rfl])
  unfold encA fA z4 at hE1
  simp only at hE1
  have hE2 := fun W => (eqVd v v W).trans (by rw [decide_eq_true rfl])
  have HR0 : Hid (RB w q b X Y O k v (atT k t) (one (atT k t) (fA v)) u9.drew) := Lib.hid K9.out.drew
  clear K9
  refine wp_region_held_drew (S := fun W => RC w q b X Y O k v (atT k t) W) (by kernel_rfl) ?_ (fun hHeld => ?_)
  · exact ⟨_, HR0.out⟩
  refine rg_take 0 (some 77) _ (by kernel_rfl) (by kernel_rfl) (by kernel_rfl) (fun _ _ _ h => h) (by kernel_rfl) (by kernel_rfl) (by intro w' hSw op_ ho; obtain ⟨_, hSw⟩ := hSw; obtain ⟨⟨k0, k1, k2, k3⟩, ⟨v0, v1, v2, v3⟩, o0, o1, o2, o3⟩ := hSw.cells; unfold atT at o0 o1 o2 o3; simp only at o0 o1 o2 o3; clear hSw; simp only [List.getElem?_toArray, List.getElem?_cons_zero, Option.some.injEq] at ho; subst ho; go_simp; with_reducible rfl) (by assumption) ?_
  try simp only [Act.put, List.setIfInBounds_toArray, List.set_cons_zero, List.set_cons_succ]
  refine rg_take 1 (some 78) _ (by kernel_rfl) (by kernel_rfl) (by kernel_rfl) (fun _ _ _ h => h) (by kernel_rfl) (by kernel_rfl) (by intro w' hSw op_ ho; obtain ⟨_, hSw⟩ := hSw; obtain ⟨⟨k0, k1, k2, k3⟩, ⟨v0, v1, v2, v3⟩, o0, o1, o2, o3⟩ := hSw.cells; unfold atT at o0 o1 o2 o3; simp only at o0 o1 o2 o3; clear hSw; simp only [List.getElem?_toArray, List.getElem?_cons_succ, List.getElem?_cons_zero, Option.some.injEq] at ho; subst ho; go_simp; with_reducible rfl) (by assumption) ?_
  try simp only [Act.put, List.setIfInBounds_toArray, List.set_cons_zero, List.set_cons_succ]
  refine rg_take 3 (some 80) _ (by kernel_rfl) (by kernel_rfl) (by kernel_rfl) (fun _ _ _ h => h) (by kernel_rfl) (by kernel_rfl) (by intro w' hSw op_ ho; obtain ⟨_, hSw⟩ := hSw; obtain ⟨⟨k0, k1, k2, k3⟩, ⟨v0, v1, v2, v3⟩, o0, o1, o2, o3⟩ := hSw.cells; unfold atT at o0 o1 o2 o3; simp only at o0 o1 o2 o3; clear hSw; simp only [List.getElem?_toArray, List.getElem?_cons_succ, List.getElem?_cons_zero, Option.some.injEq] at ho; subst ho; go_simp; with_reducible rfl) (by assumption) ?_
  try simp only [Act.put, List.setIfInBounds_toArray, List.set_cons_zero, List.set_cons_succ]
  refine rg_take 4 (some 81) _ (by kernel_rfl) (by kernel_rfl) (by kernel_rfl) (fun _ _ _ h => h) (by kernel_rfl) (by kernel_rfl) (by intro w' hSw op_ ho; obtain ⟨_, hSw⟩ := hSw; obtain ⟨⟨k0, k1, k2, k3⟩, ⟨v0, v1, v2, v3⟩, o0, o1, o2, o3⟩ := hSw.cells; unfold atT at o0 o1 o2 o3; simp only at o0 o1 o2 o3; clear hSw; simp only [List.getElem?_toArray, List.getElem?_cons_succ, List.getElem?_cons_zero, Option.some.injEq] at ho; subst ho; go_simp; with_reducible rfl) (by assumption) ?_
  try simp only [Act.put, List.setIfInBounds_toArray, List.set_cons_zero, List.set_cons_succ]
  refine rg_one 2 (by kernel_rfl) (by kernel_rfl) (fun op_ ho K hK => ?_)
  simp only [List.getElem?_toArray, List.getElem?_cons_succ, List.getElem?_cons_zero, Option.some.injEq] at ho
  subst ho
  go_simp
  go_at_call 8
  refine (HO1.out _ HR0.out).mono ?_
  rintro e y1 ⟨rfl, s1⟩
  have HR1 := Lib.hid (HR0.out.on s1)
  clear s1
  go_wp2_with fail
  refine hK.out _ _ (by first | exact ⟨_, HR4.out⟩ | exact ⟨_, HR3.out⟩ | exact ⟨_, HR2.out⟩ | exact ⟨_, HR1.out⟩) (fun hHeld => ?_)
  clear hK
  try simp only [Act.put, List.setIfInBounds_toArray, List.set_cons_zero, List.set_cons_succ]
  refine rg_take 5 (some 82) _ (by kernel_rfl) (by kernel_rfl) (by kernel_rfl) (fun _ _ _ h => h) (by kernel_rfl) (by kernel_rfl) (by intro w' hSw op_ ho; obtain ⟨_, hSw⟩ := hSw; obtain ⟨⟨k0, k1, k2, k3⟩, ⟨v0, v1, v2, v3⟩, o0, o1, o2, o3⟩ := hSw.cells; unfold atT at o0 o1 o2 o3; simp only at o0 o1 o2 o3; clear hSw; simp only [List.getElem?_toArray, List.getElem?_cons_succ, List.getElem?_cons_zero, Option.some.injEq] at ho; subst ho; go_simp; with_reducible rfl) (by assumption) ?_
  try simp only [Act.put, List.setIfInBounds_toArray, List.set_cons_zero, List.set_cons_succ]
  refine rg_take 6 (some 83) _ (by kernel_rfl) (by kernel_rfl) (by kernel_rfl) (fun _ _ _ h => h) (by kernel_rfl) (by kernel_rfl) (by intro w' hSw op_ ho; obtain ⟨_, hSw⟩ := hSw; obtain ⟨⟨k0, k1, k2, k3⟩, ⟨v0, v1, v2, v3⟩, o0, o1, o2, o3⟩ := hSw.cells; unfold atT at o0 o1 o2 o3; simp only at o0 o1 o2 o3; clear hSw; simp only [List.getElem?_toArray, List.getElem?_cons_succ, List.getElem?_cons_zero, Option.some.injEq] at ho; subst ho; go_simp; with_reducible rfl) (by assumption) ?_
  try simp only [Act.put, List.setIfInBounds_toArray, List.set_cons_zero, List.set_cons_succ]
  refine rg_take 7 (some 84) _ (by kernel_rfl) (by kernel_rfl) (by kernel_rfl) (fun _ _ _ h => h) (by kernel_rfl) (by kernel_rfl) (by intro w' hSw op_ ho; obtain ⟨_, hSw⟩ := hSw; obtain ⟨⟨k0, k1, k2, k3⟩, ⟨v0, v1, v2, v3⟩, o0, o1, o2, o3⟩ := hSw.cells; unfold atT at o0 o1 o2 o3; simp only at o0 o1 o2 o3; clear hSw; simp only [List.getElem?_toArray, List.getElem?_cons_succ, List.getElem?_cons_zero, Option.some.injEq] at ho; subst ho; go_simp; with_reducible rfl) (by assumption) ?_
  try simp only [Act.put, List.setIfInBounds_toArray, List.set_cons_zero, List.set_cons_succ]
  refine rg_take 8 (some 85) _ (by kernel_rfl) (by kernel_rfl) (by kernel_rfl) (fun _ _ _ h => h) (by kernel_rfl) (by kernel_rfl) (by intro w' hSw op_ ho; obtain ⟨_, hSw⟩ := hSw; obtain ⟨⟨k0, k1, k2, k3⟩, ⟨v0, v1, v2, v3⟩, o0, o1, o2, o3⟩ := hSw.cells; unfold atT at o0 o1 o2 o3; simp only at o0 o1 o2 o3; clear hSw; simp only [List.getElem?_toArray, List.getElem?_cons_succ, List.getElem?_cons_zero, Option.some.injEq] at ho; subst ho; go_simp; with_reducible rfl) (by assumption) ?_
  try simp only [Act.put, List.setIfInBounds_toArray, List.set_cons_zero, List.set_cons_succ]
  refine rg_take 9 (some 86) _ (by kernel_rfl) (by kernel_rfl) (by kernel_rfl) (fun _ _ _ h => h) (by kernel_rfl) (by kernel_rfl) (by intro w' hSw op_ ho; obtain ⟨_, hSw⟩ := hSw; obtain ⟨⟨k0, k1, k2, k3⟩, ⟨v0, v1, v2, v3⟩, o0, o1, o2, o3⟩ := hSw.cells; unfold atT at o0 o1 o2 o3; simp only at o0 o1 o2 o3; clear hSw; simp only [List.getElem?_toArray, List.getElem?_cons_succ, List.getElem?_cons_zero, Option.some.injEq] at ho; subst ho; go_simp; with_reducible rfl) (by assumption) ?_
  try simp only [Act.put, List.setIfInBounds_toArray, List.set_cons_zero, List.set_cons_succ]
  refine rg_take 11 (some 88) _ (by kernel_rfl) (by kernel_rfl) (by kernel_rfl) (fun _ _ _ h => h) (by kernel_rfl) (by kernel_rfl) (by intro w' hSw op_ ho; obtain ⟨_, hSw⟩ := hSw; obtain ⟨⟨k0, k1, k2, k3⟩, ⟨v0, v1, v2, v3⟩, o0, o1, o2, o3⟩ := hSw.cells; unfold atT at o0 o1 o2 o3; simp only at o0 o1 o2 o3; clear hSw; simp only [List.getElem?_toArray, List.getElem?_cons_succ, List.getElem?_cons_zero, Option.some.injEq] at ho; subst ho; go_simp; with_reducible rfl) (by assumption) ?_
  try simp only [Act.put, List.setIfInBounds_toArray, List.set_cons_zero, List.set_cons_succ]
  refine rg_one 10 (by kernel_rfl) (by kernel_rfl) (fun op_ ho K hK => ?_)
  simp only [List.getElem?_toArray, List.getElem?_cons_succ, List.getElem?_cons_zero, Option.some.injEq] at ho
  subst ho
  go_simp
  go_at_call 11
  refine (HI1.out _ HR1.out).mono ?_
  rintro e y2 ⟨rfl, s1⟩
  have HR2 := Lib.hid (HR1.out.on s1)
  clear s1
  go_wp2_with fail
  refine hK.out _ _ (by first | exact ⟨_, HR4.out⟩ | exact ⟨_, HR3.out⟩ | exact ⟨_, HR2.out⟩ | exact ⟨_, HR1.out⟩) (fun hHeld => ?_)
  clear hK
  try simp only [Act.put, List.setIfInBounds_toArray, List.set_cons_zero, List.set_cons_succ]
  refine rg_take 12 (some 89) _ (by kernel_rfl) (by kernel_rfl) (by kernel_rfl) (fun _ _ _ h => h) (by kernel_rfl) (by kernel_rfl) (by intro w' hSw op_ ho; obtain ⟨_, hSw⟩ := hSw; obtain ⟨⟨k0, k1, k2, k3⟩, ⟨v0, v1, v2, v3⟩, o0, o1, o2, o3⟩ := hSw.cells; unfold atT at o0 o1 o2 o3; simp only at o0 o1 o2 o3; clear hSw; simp only [List.getElem?_toArray, List.getElem?_cons_succ, List.getElem?_cons_zero, Option.some.injEq] at ho; subst ho; go_simp; with_reducible rfl) (by assumption) ?_
  try simp only [Act.put, List.setIfInBounds_toArray, List.set_cons_zero, List.set_cons_succ]
  refine rg_take 13 (some 90) _ (by kernel_rfl) (by kernel_rfl) (by kernel_rfl) (fun _ _ _ h => h) (by kernel_rfl) (by kernel_rfl) (by intro w' hSw op_ ho; obtain ⟨_, hSw⟩ := hSw; obtain ⟨⟨k0, k1, k2, k3⟩, ⟨v0, v1, v2, v3⟩, o0, o1, o2, o3⟩ := hSw.cells; unfold atT at o0 o1 o2 o3; simp only at o0 o1 o2 o3; clear hSw; simp only [List.getElem?_toArray, List.getElem?_cons_succ, List.getElem?_cons_zero, Option.some.injEq] at ho; subst ho; go_simp; with_reducible rfl) (by assumption) ?_
  try simp only [Act.put, List.setIfInBounds_toArray, List.set_cons_zero, List.set_cons_succ]
  refine rg_take 14 (some 91) _ (by kernel_rfl) (by kernel_rfl) (by kernel_rfl) (fun _ _ _ h => h) (by kernel_rfl) (by kernel_rfl) (by intro w' hSw op_ ho; obtain ⟨_, hSw⟩ := hSw; obtain ⟨⟨k0, k1, k2, k3⟩, ⟨v0, v1, v2, v3⟩, o0, o1, o2, o3⟩ := hSw.cells; unfold atT at o0 o1 o2 o3; simp only at o0 o1 o2 o3; clear hSw; simp only [List.getElem?_toArray, List.getElem?_cons_succ, List.getElem?_cons_zero, Option.some.injEq] at ho; subst ho; go_simp; with_reducible rfl) (by assumption) ?_
  try simp only [Act.put, List.setIfInBounds_toArray, List.set_cons_zero, List.set_cons_succ]
  refine rg_take 15 (some 92) _ (by kernel_rfl) (by kernel_rfl) (by kernel_rfl) (fun _ _ _ h => h) (by kernel_rfl) (by kernel_rfl) (by intro w' hSw op_ ho; obtain ⟨_, hSw⟩ := hSw; obtain ⟨⟨k0, k1, k2, k3⟩, ⟨v0, v1, v2, v3⟩, o0, o1, o2, o3⟩ := hSw.cells; unfold atT at o0 o1 o2 o3; simp only at o0 o1 o2 o3; clear hSw; simp only [List.getElem?_toArray, List.getElem?_cons_succ, List.getElem?_cons_zero, Option.some.injEq] at ho; subst ho; go_simp; with_reducible rfl) (by assumption) ?_
  try simp only [Act.put, List.setIfInBounds_toArray, List.set_cons_zero, List.set_cons_succ]
  refine rg_take 16 (some 93) _ (by kernel_rfl) (by kernel_rfl) (by kernel_rfl) (fun _ _ _ h => h) (by kernel_rfl) (by kernel_rfl) (by intro w' hSw op_ ho; obtain ⟨_, hSw⟩ := hSw; obtain ⟨⟨k0, k1, k2, k3⟩, ⟨v0, v1, v2, v3⟩, o0, o1, o2, o3⟩ := hSw.cells; unfold atT at o0 o1 o2 o3; simp only at o0 o1 o2 o3; clear hSw; simp only [List.getElem?_toArray, List.getElem?_cons_succ, List.getElem?_cons_zero, Option.some.injEq] at ho; subst ho; go_simp; with_reducible rfl) (by assumption) ?_
  try simp only [Act.put, List.setIfInBounds_toArray, List.set_cons_zero, List.set_cons_succ]
  refine rg_take 17 (some 94) _ (by kernel_rfl) (by kernel_rfl) (by kernel_rfl) (fun _ _ _ h => h) (by kernel_rfl) (by kernel_rfl) (by intro w' hSw op_ ho; obtain ⟨_, hSw⟩ := hSw; obtain ⟨⟨k0, k1, k2, k3⟩, ⟨v0, v1, v2, v3⟩, o0, o1, o2, o3⟩ := hSw.cells; unfold atT at o0 o1 o2 o3; simp only at o0 o1 o2 o3; clear hSw; simp only [List.getElem?_toArray, List.getElem?_cons_succ, List.getElem?_cons_zero, Option.some.injEq] at ho; subst ho; go_simp; with_reducible rfl) (by assumption) ?_
  try simp only [Act.put, List.setIfInBounds_toArray, List.set_cons_zero, List.set_cons_succ]
  refine rg_take 18 (some 95) _ (by kernel_rfl) (by kernel_rfl) (by kernel_rfl) (fun _ _ _ h => h) (by kernel_rfl) (by kernel_rfl) (by intro w' hSw op_ ho; obtain ⟨_, hSw⟩ := hSw; obtain ⟨⟨k0, k1, k2, k3⟩, ⟨v0, v1, v2, v3⟩, o0, o1, o2, o3⟩ := hSw.cells; unfold atT at o0 o1 o2 o3; simp only at o0 o1 o2 o3; clear hSw; simp only [List.getElem?_toArray, List.getElem?_cons_succ, List.getElem?_cons_zero, Option.some.injEq] at ho; subst ho; go_simp; with_reducible rfl) (by assumption) ?_
  try simp only [Act.put, List.setIfInBounds_toArray, List.set_cons_zero, List.set_cons_succ]
  refine rg_take 19 (some 96) _ (by kernel_rfl) (by kernel_rfl) (by kernel_rfl) (fun _ _ _ h => h) (by kernel_rfl) (by kernel_rfl) (by intro w' hSw op_ ho; obtain ⟨_, hSw⟩ := hSw; obtain ⟨⟨k0, k1, k2, k3⟩, ⟨v0, v1, v2, v3⟩, o0, o1, o2, o3⟩ := hSw.cells; unfold atT at o0 o1 o2 o3; simp only at o0 o1 o2 o3; clear hSw; simp only [List.getElem?_toArray, List.getElem?_cons_succ, List.getElem?_cons_zero, Option.some.injEq] at ho; subst ho; go_simp; with_reducible rfl) (by assumption) ?_
  try simp only [Act.put, List.setIfInBounds_toArray, List.set_cons_zero, List.set_cons_succ]
  refine rg_one 20 (by kernel_rfl) (by kernel_rfl) (fun op_ ho K hK => ?_)
  simp only [List.getElem?_toArray, List.getElem?_cons_succ, List.getElem?_cons_zero, Option.some.injEq] at ho
  subst ho
  go_simp
  go_at_call 19
  refine (HV1.out _ HR2.out).mono ?_
  rintro e y3 ⟨rfl, s1⟩
  have HR3 := Lib.hid s1
  clear s1
  go_wp2_with fail
  refine hK.out _ _ (by first | exact ⟨_, HR4.out⟩ | exact ⟨_, HR3.out⟩ | exact ⟨_, HR2.out⟩ | exact ⟨_, HR1.out⟩) (fun hHeld => ?_)
  clear hK
  try simp only [Act.put, List.setIfInBounds_toArray, List.set_cons_zero, List.set_cons_succ]
  refine rg_take 21 (some 98) _ (by kernel_rfl) (by kernel_rfl) (by kernel_rfl) (fun _ _ _ h => h) (by kernel_rfl) (by kernel_rfl) (by intro w' hSw op_ ho; obtain ⟨_, hSw⟩ := hSw; obtain ⟨⟨k0, k1, k2, k3⟩, ⟨v0, v1, v2, v3⟩, o0, o1, o2, o3⟩ := hSw.cells; unfold atT at o0 o1 o2 o3; simp only at o0 o1 o2 o3; clear hSw; simp only [List.getElem?_toArray, List.getElem?_cons_succ, List.getElem?_cons_zero, Option.some.injEq] at ho; subst ho; go_simp; with_reducible rfl) (by assumption) ?_
  try simp only [Act.put, List.setIfInBounds_toArray, List.set_cons_zero, List.set_cons_succ]
  refine rg_take 22 (some 99) _ (by kernel_rfl) (by kernel_rfl) (by kernel_rfl) (fun _ _ _ h => h) (by kernel_rfl) (by kernel_rfl) (by intro w' hSw op_ ho; obtain ⟨_, hSw⟩ := hSw; obtain ⟨⟨k0, k1, k2, k3⟩, ⟨v0, v1, v2, v3⟩, o0, o1, o2, o3⟩ := hSw.cells; unfold atT at o0 o1 o2 o3; simp only at o0 o1 o2 o3; clear hSw; simp only [List.getElem?_toArray, List.getElem?_cons_succ, List.getElem?_cons_zero, Option.some.injEq] at ho; subst ho; go_simp; with_reducible rfl) (by assumption) ?_
  try simp only [Act.put, List.setIfInBounds_toArray, List.set_cons_zero, List.set_cons_succ]
  refine rg_take 23 (some 100) _ (by kernel_rfl) (by kernel_rfl) (by kernel_rfl) (fun _ _ _ h => h) (by kernel_rfl) (by kernel_rfl) (by intro w' hSw op_ ho; obtain ⟨_, hSw⟩ := hSw; obtain ⟨⟨k0, k1, k2, k3⟩, ⟨v0, v1, v2, v3⟩, o0, o1, o2, o3⟩ := hSw.cells; unfold atT at o0 o1 o2 o3; simp only at o0 o1 o2 o3; clear hSw; simp only [List.getElem?_toArray, List.getElem?_cons_succ, List.getElem?_cons_zero, Option.some.injEq] at ho; subst ho; go_simp; with_reducible rfl) (by assumption) ?_
  try simp only [Act.put, List.setIfInBounds_toArray, List.set_cons_zero, List.set_cons_succ]
  refine rg_take 24 (some 101) _ (by kernel_rfl) (by kernel_rfl) (by kernel_rfl) (fun _ _ _ h => h) (by kernel_rfl) (by kernel_rfl) (by intro w' hSw op_ ho; obtain ⟨_, hSw⟩ := hSw; obtain ⟨⟨k0, k1, k2, k3⟩, ⟨v0, v1, v2, v3⟩, o0, o1, o2, o3⟩ := hSw.cells; unfold atT at o0 o1 o2 o3; simp only at o0 o1 o2 o3; clear hSw; simp only [List.getElem?_toArray, List.getElem?_cons_succ, List.getElem?_cons_zero, Option.some.injEq] at ho; subst ho; go_simp; with_reducible rfl) (by assumption) ?_
  try simp only [Act.put, List.setIfInBounds_toArray, List.set_cons_zero, List.set_cons_succ]
  refine rg_take 25 (some 102) _ (by kernel_rfl) (by kernel_rfl) (by kernel_rfl) (fun _ _ _ h => h) (by kernel_rfl) (by kernel_rfl) (by intro w' hSw op_ ho; obtain ⟨_, hSw⟩ := hSw; obtain ⟨⟨k0, k1, k2, k3⟩, ⟨v0, v1, v2, v3⟩, o0, o1, o2, o3⟩ := hSw.cells; unfold atT at o0 o1 o2 o3; simp only at o0 o1 o2 o3; clear hSw; simp only [List.getElem?_toArray, List.getElem?_cons_succ, List.getElem?_cons_zero, Option.some.injEq] at ho; subst ho; go_simp; with_reducible rfl) (by assumption) ?_
  try simp only [Act.put, List.setIfInBounds_toArray, List.set_cons_zero, List.set_cons_succ]
  refine rg_take 27 (some 104) _ (by kernel_rfl) (by kernel_rfl) (by kernel_rfl) (fun _ _ _ h => h) (by kernel_rfl) (by kernel_rfl) (by intro w' hSw op_ ho; obtain ⟨_, hSw⟩ := hSw; obtain ⟨⟨k0, k1, k2, k3⟩, ⟨v0, v1, v2, v3⟩, o0, o1, o2, o3⟩ := hSw.cells; unfold atT at o0 o1 o2 o3; simp only at o0 o1 o2 o3; clear hSw; simp only [List.getElem?_toArray, List.getElem?_cons_succ, List.getElem?_cons_zero, Option.some.injEq] at ho; subst ho; go_simp; with_reducible rfl) (by assumption) ?_
  try simp only [Act.put, List.setIfInBounds_toArray, List.set_cons_zero, List.set_cons_succ]
  refine rg_take 28 (some 105) _ (by kernel_rfl) (by kernel_rfl) (by kernel_rfl) (fun _ _ _ h => h) (by kernel_rfl) (by kernel_rfl) (by intro w' hSw op_ ho; obtain ⟨_, hSw⟩ := hSw; obtain ⟨⟨k0, k1, k2, k3⟩, ⟨v0, v1, v2, v3⟩, o0, o1, o2, o3⟩ := hSw.cells; unfold atT at o0 o1 o2 o3; simp only at o0 o1 o2 o3; clear hSw; simp only [List.getElem?_toArray, List.getElem?_cons_succ, List.getElem?_cons_zero, Option.some.injEq] at ho; subst ho; go_simp; with_reducible rfl) (by assumption) ?_
  try simp only [Act.put, List.setIfInBounds_toArray, List.set_cons_zero, List.set_cons_succ]
  refine rg_one 26 (by kernel_rfl) (by kernel_rfl) (fun op_ ho K hK => ?_)
  simp only [List.getElem?_toArray, List.getElem?_cons_succ, List.getElem?_cons_zero, Option.some.injEq] at ho
  subst ho
  go_simp
  go_at_call 8
  refine (HO2.out _ HR3.out).mono ?_
  rintro e y4 ⟨rfl, s1⟩
  have HR4 := Lib.hid (HR3.out.on s1)
  clear s1
  go_wp2_with fail
  refine hK.out _ _ (by first | exact ⟨_, HR4.out⟩ | exact ⟨_, HR3.out⟩ | exact ⟨_, HR2.out⟩ | exact ⟨_, HR1.out⟩) (fun hHeld => ?_)
  clear hK
  try simp only [Act.put, List.setIfInBounds_toArray, List.set_cons_zero, List.set_cons_succ]
  refine rg_take 29 (some 106) _ (by kernel_rfl) (by kernel_rfl) (by kernel_rfl) (fun _ _ _ h => h) (by kernel_rfl) (by kernel_rfl) (by intro w' hSw op_ ho; obtain ⟨_, hSw⟩ := hSw; obtain ⟨⟨k0, k1, k2, k3⟩, ⟨v0, v1, v2, v3⟩, o0, o1, o2, o3⟩ := hSw.cells; unfold atT at o0 o1 o2 o3; simp only at o0 o1 o2 o3; clear hSw; simp only [List.getElem?_toArray, List.getElem?_cons_succ, List.getElem?_cons_zero, Option.some.injEq] at ho; subst ho; go_simp; with_reducible rfl) (by assumption) ?_
  try simp only [Act.put, List.setIfInBounds_toArray, List.set_cons_zero, List.set_cons_succ]
  refine rg_take 30 (some 107) _ (by kernel_rfl) (by kernel_rfl) (by kernel_rfl) (fun _ _ _ h => h) (by kernel_rfl) (by kernel_rfl) (by intro w' hSw op_ ho; obtain ⟨_, hSw⟩ := hSw; obtain ⟨⟨k0, k1, k2, k3⟩, ⟨v0, v1, v2, v3⟩, o0, o1, o2, o3⟩ := hSw.cells; unfold atT at o0 o1 o2 o3; simp only at o0 o1 o2 o3; clear hSw; simp only [List.getElem?_toArray, List.getElem?_cons_succ, List.getElem?_cons_zero, Option.some.injEq] at ho; subst ho; go_simp; with_reducible rfl) (by assumption) ?_
  try simp only [Act.put, List.setIfInBounds_toArray, List.set_cons_zero, List.set_cons_succ]
  refine wpAnyH_done (by kernel_rfl) ?_ _
  have HR9 := HR4
  clear hHeld
  obtain ⟨⟨k0, k1, k2, k3⟩, ⟨v0, v1, v2, v3⟩, _⟩ := HR9.out.cells
  go_wp2_with fail
  clear k0 k1 k2 k3 v0 v1 v2 v3
  refine (take_c s q b (one k (fA v)) k v _ (HR9.out.ga.sent HS.out) (HR9.out.ga.nots HS.out) HR9.out.ga.book HK.out (one_len _ _)).mono ?_
  rw [HA.out.take0 k, HA.out.take k, errV_zero]
  rintro e x1 ⟨rfl, t1, g1⟩
  have K1 : Hid (RB w q b X Y O k v (atT k t) [] x1) := Lib.hid (HR9.out.chg t1 g1)
  clear HR9 t1 g1
  go_wp2_with fail
  refine (keys_c q b [] _ K1.out.ga.book (by decide)).mono ?_
  rintro e x2 ⟨vk, L, rfl, hp, _, _, hown, b2⟩
  obtain rfl : L = [] := List.Perm.nil_eq hp.symm |>.symm
  obtain ⟨Ak, ck, rfl⟩ := hown.form
  have K2 := Lib.hid (K1.out.on b2)
  clear hp hown b2 K1
  simp only [List.length_nil]
  obtain ⟨⟨k0, k1, k2, k3⟩, ⟨v0, v1, v2, v3⟩, _⟩ := K2.out.cells
  go_wp2_with fail
  clear k0 k1 k2 k3 v0 v1 v2 v3
  refine (bissued_c s q b [] k _ (K2.out.ga.sent HS.out) K2.out.ga.book (by decide)).mono ?_
  rw [show issV [] k = ⟨0, 0, 0, 0⟩ from rfl]
  rintro e x3 ⟨rfl, b3⟩
  have K3 := Lib.hid (K2.out.on b3)
  clear K2 b3
  have hE3 := fun W => (eqVd ⟨0, 0, 0, 0⟩ ⟨0, 0, 0, 0⟩ W).trans (by rw [decide_eq_true rfl])
  simp only at hE3 ⊢
  go_wp2_with fail
  go_ret
  exact ⟨rfl, K3.out.ga.below⟩
end Go.Proofs.YtpgioihmaodlcaaDoor
