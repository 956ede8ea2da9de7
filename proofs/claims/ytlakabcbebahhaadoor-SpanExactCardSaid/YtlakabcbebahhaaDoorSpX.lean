/- The walk of the law SpanExact: whatever the numbers, it returns true. Condition: the sentinels lie where the program's text lays them. -/
import Derived.Test.YtlakabcbebahhaaDoorSpA
import Derived.Test.YtlakabcbebahhaaDoorSpF
import Derived.Test.YtlakabcbebahhaaDoorKd
import Derived.Deep.DeepCutAuto
import Derived.Deep.CutBlock
namespace Go.Proofs.YtlakabcbebahhaaDoor
open Go Go.RowKit Go.Extern.Stop Go.Stop Go.Extern

theorem errA_errV (s : Nat → Addr) {k : Nat} (h : k ≤ 1) : errA (s 0) k = errV s k := by
  unfold errA errV
  by_cases e : k = 0
  · rw [if_pos e, if_pos e]
  · obtain rfl : k = 1 := by omega
    rfl
theorem win_le (t n : Int) : (winOf t n).2 ≤ 1 := by unfold winOf; split <;> simp
theorem begin_le (t n : Int) : (beginOf t n).2 ≤ 1 := by unfold beginOf; split <;> simp
theorem left_le (t n : Int) : (leftOf t n).2 ≤ 1 := by unfold leftOf; split <;> simp
theorem row_le (t n : Int) : (rowOf t n).2 ≤ 1 := by unfold rowOf; split <;> simp
theorem row_few (t n : Int) : (rowOf t n).1.length ≤ 8 := by
  unfold rowOf
  split
  · rename_i h
    have := row_yes.1 h
    rw [upFrom_len]; omega
  · simp

set_option maxRecDepth 100000 in
set_option maxHeartbeats 6400000 in
theorem exact_any (s : Nat → Addr) (x y : Int) (w : World) (hs : Sent s w) :
    Calls Tryd.prog 3 #[.int .i64 x, .int .i64 y] w fun e w' => e = .returned (.bool true) ∧ Below w.heap.size w w' := by
  have HS := Lib.hid hs; clear hs
  obtain ⟨X, hX⟩ : ∃ X, (winOf x y).1 = X := ⟨_, rfl⟩
  obtain ⟨kx, hkx⟩ : ∃ k, (winOf x y).2 = k := ⟨_, rfl⟩
  obtain ⟨Y, hY⟩ : ∃ Y, (beginOf x y).1 = Y := ⟨_, rfl⟩
  obtain ⟨ky, hky⟩ : ∃ k, (beginOf x y).2 = k := ⟨_, rfl⟩
  obtain ⟨Z, hZ⟩ : ∃ Z, (leftOf x y).1 = Z := ⟨_, rfl⟩
  obtain ⟨kz, hkz⟩ : ∃ k, (leftOf x y).2 = k := ⟨_, rfl⟩
  obtain ⟨L, hL⟩ : ∃ L, (rowOf x y).1 = L := ⟨_, rfl⟩
  obtain ⟨kl, hkl⟩ : ∃ k, (rowOf x y).2 = k := ⟨_, rfl⟩
  obtain ⟨O, hO⟩ : ∃ o, openOf x y = o := ⟨_, rfl⟩
  obtain ⟨N, hN⟩ : ∃ n, L.length = n := ⟨_, rfl⟩
  have hN8 : N ≤ 8 := by rw [← hN, ← hL]; exact row_few x y
  have lx : kx ≤ 1 := by rw [← hkx]; exact win_le x y
  have ly : ky ≤ 1 := by rw [← hky]; exact begin_le x y
  have lz : kz ≤ 1 := by rw [← hkz]; exact left_le x y
  have ll : kl ≤ 1 := by rw [← hkl]; exact row_le x y
  have CA : Hid (∀ W, Sent s W → Calls Tryd.prog 7 #[.int .i64 x, .int .i64 y] W fun e w' => e = .returned (.tuple #[.int .i64 X, errV s kx]) ∧ Below W.heap.size W w') := Lib.hid fun W h => by
    have := at_c (s 0) x y W h.arg; rw [hX, hkx, errA_errV s lx] at this; exact this
  have CF : Hid (∀ W, Sent s W → Calls Tryd.prog 8 #[.int .i64 x, .int .i64 y] W fun e w' => e = .returned (.tuple #[.int .i64 Y, errV s ky]) ∧ Below W.heap.size W w') := Lib.hid fun W h => by
    have := first_c (s 0) x y W h.arg; rw [hY, hky, errA_errV s ly] at this; exact this
  have CL : Hid (∀ W, Sent s W → Calls Tryd.prog 9 #[.int .i64 x, .int .i64 y] W fun e w' => e = .returned (.tuple #[.int .i64 Z, errV s kz]) ∧ Below W.heap.size W w') := Lib.hid fun W h => by
    have := left_c (s 0) x y W h.arg; rw [hZ, hkz, errA_errV s lz] at this; exact this
  have CR : Hid (∀ W, Sent s W → Calls Tryd.prog 10 #[.int .i64 x, .int .i64 y] W fun e w' => (∃ v, e = .returned (.tuple #[v, errV s kl]) ∧ RI w' v L) ∧ Below W.heap.size W w') := Lib.hid fun W h => by
    have := row_c (s 0) x y W h.arg; rw [hL, hkl, errA_errV s ll] at this; exact this
  have DA : Hid (∀ W, Calls Tryd.prog 11 #[.int .i64 x, .int .i64 y] W fun e w' => e = .returned (.tuple #[.int .i64 X, .int .i64 (kx : Int)]) ∧ w' = W) := Lib.hid fun W => by
    have := rat_c x y W; rw [hX, hkx] at this; exact this
  have DF : Hid (∀ W, Calls Tryd.prog 12 #[.int .i64 x, .int .i64 y] W fun e w' => e = .returned (.tuple #[.int .i64 Y, .int .i64 (ky : Int)]) ∧ w' = W) := Lib.hid fun W => by
    have := rfirst_c x y W; rw [hY, hky] at this; exact this
  have DL : Hid (∀ W, Calls Tryd.prog 13 #[.int .i64 x, .int .i64 y] W fun e w' => e = .returned (.tuple #[.int .i64 Z, .int .i64 (kz : Int)]) ∧ w' = W) := Lib.hid fun W => by
    have := rleft_c x y W; rw [hZ, hkz] at this; exact this
  have DR : Hid (∀ W, Calls Tryd.prog 14 #[.int .i64 x, .int .i64 y] W fun e w' => (∃ v, e = .returned (.tuple #[v, .int .i64 (kl : Int)]) ∧ RI w' v L) ∧ Below W.heap.size W w') := Lib.hid fun W => by
    have := rrow_c x y W; rw [hL, hkl] at this; exact this
  have CO : Hid (∀ W, Calls Tryd.prog 16 #[.int .i64 x, .int .i64 y] W fun e w' => e = .returned (.bool O) ∧ w' = W) := Lib.hid fun W => by
    have := open_c x y W; rw [hO] at this; exact this
  have DO : Hid (∀ W, Calls Tryd.prog 17 #[.int .i64 x, .int .i64 y] W fun e w' => e = .returned (.bool O) ∧ w' = W) := Lib.hid fun W => by
    have := ropen_c x y W; rw [hO] at this; exact this
  have KX : Hid (∀ W, Sent s W → Calls Tryd.prog 15 #[errV s kx] W fun e w' => e = .returned (.int .i64 (kx : Int)) ∧ Below W.heap.size W w') := Lib.hid fun W h => kind_errV s kx W h (by omega)
  have KY : Hid (∀ W, Sent s W → Calls Tryd.prog 15 #[errV s ky] W fun e w' => e = .returned (.int .i64 (ky : Int)) ∧ Below W.heap.size W w') := Lib.hid fun W h => kind_errV s ky W h (by omega)
  have KZ : Hid (∀ W, Sent s W → Calls Tryd.prog 15 #[errV s kz] W fun e w' => e = .returned (.int .i64 (kz : Int)) ∧ Below W.heap.size W w') := Lib.hid fun W h => kind_errV s kz W h (by omega)
  have KL : Hid (∀ W, Sent s W → Calls Tryd.prog 15 #[errV s kl] W fun e w' => e = .returned (.int .i64 (kl : Int)) ∧ Below W.heap.size W w') := Lib.hid fun W h => kind_errV s kl W h (by omega)
  obtain ⟨ex, hex⟩ : ∃ v, errV s kx = v := ⟨_, rfl⟩
  obtain ⟨ey, hey⟩ : ∃ v, errV s ky = v := ⟨_, rfl⟩
  obtain ⟨ez, hez⟩ : ∃ v, errV s kz = v := ⟨_, rfl⟩
  obtain ⟨el, hel⟩ : ∃ v, errV s kl = v := ⟨_, rfl⟩
  rw [hex] at CA KX; rw [hey] at CF KY; rw [hez] at CL KZ; rw [hel] at CR KL
  have HN := Lib.hid hN
  clear hex hey hez hel lx ly lz ll hX hkx hY hky hZ hkz hL hkl hO hN
  go_enter Tryd.func3, Tryd.ntmps3
  go_wp2_with fail
  refine (awake_c (s 0) _ HS.out.arg).mono ?_
  rintro e w1 ⟨rfl, b1⟩
  have B := Lib.hid b1; clear b1
  go_wp2_with fail
  refine (CA.out _ (HS.out.below B.out (Nat.le_refl _))).mono ?_
  rintro e w2 ⟨rfl, b2⟩
  replace B := Lib.hid (B.out.trans (b2.mono B.out.size)); clear b2
  go_wp2_with fail
  refine (CF.out _ (HS.out.below B.out (Nat.le_refl _))).mono ?_
  rintro e w3 ⟨rfl, b3⟩
  replace B := Lib.hid (B.out.trans (b3.mono B.out.size)); clear b3
  go_wp2_with fail
  refine (CL.out _ (HS.out.below B.out (Nat.le_refl _))).mono ?_
  rintro e w4 ⟨rfl, b4⟩
  replace B := Lib.hid (B.out.trans (b4.mono B.out.size)); clear b4
  go_wp2_with fail
  refine (CR.out _ (HS.out.below B.out (Nat.le_refl _))).mono ?_
  rintro e w5 ⟨⟨v, rfl, hv⟩, b5⟩
  replace B := Lib.hid (B.out.trans (b5.mono B.out.size)); clear b5
  have HV := Lib.hid hv
  obtain ⟨A, c, rfl, _⟩ := hv
  rw [HN.out]
  go_wp2_with fail
  refine (DA.out _).mono ?_
  rintro e w6 ⟨rfl, rfl⟩
  go_wp2_with fail
  refine (DF.out _).mono ?_
  rintro e w6 ⟨rfl, rfl⟩
  go_wp2_with fail
  refine (DL.out _).mono ?_
  rintro e w6 ⟨rfl, rfl⟩
  go_wp2_with fail
  refine (DR.out _).mono ?_
  rintro e w6 ⟨⟨v, rfl, hv⟩, b6⟩
  replace B := Lib.hid (B.out.trans (b6.mono B.out.size))
  replace HV := Lib.hid (HV.out.on b6); clear b6
  have HU := Lib.hid hv
  obtain ⟨A2, c2, rfl, _⟩ := hv
  rw [HN.out]
  go_wp2_with fail
  refine (KX.out _ (HS.out.below B.out (Nat.le_refl _))).mono ?_
  rintro e w7 ⟨rfl, b7⟩
  replace B := Lib.hid (B.out.trans (b7.mono B.out.size))
  replace HV := Lib.hid (HV.out.on b7)
  replace HU := Lib.hid (HU.out.on b7); clear b7
  go_wp2_with fail
  refine (KY.out _ (HS.out.below B.out (Nat.le_refl _))).mono ?_
  rintro e w8 ⟨rfl, b8⟩
  replace B := Lib.hid (B.out.trans (b8.mono B.out.size))
  replace HV := Lib.hid (HV.out.on b8)
  replace HU := Lib.hid (HU.out.on b8); clear b8
  go_wp2_with fail
  refine (KZ.out _ (HS.out.below B.out (Nat.le_refl _))).mono ?_
  rintro e w9 ⟨rfl, b9⟩
  replace B := Lib.hid (B.out.trans (b9.mono B.out.size))
  replace HV := Lib.hid (HV.out.on b9)
  replace HU := Lib.hid (HU.out.on b9); clear b9
  go_wp2_with fail
  refine (KL.out _ (HS.out.below B.out (Nat.le_refl _))).mono ?_
  rintro e w10 ⟨rfl, b10⟩
  replace B := Lib.hid (B.out.trans (b10.mono B.out.size))
  replace HV := Lib.hid (HV.out.on b10)
  replace HU := Lib.hid (HU.out.on b10); clear b10
  go_wp2_with fail
  refine (CO.out _).mono ?_
  rintro e w11 ⟨rfl, rfl⟩
  go_wp2_with fail
  refine (DO.out _).mono ?_
  rintro e w11 ⟨rfl, rfl⟩
  clear CA CF CL CR CO DA DF DL DR DO KX KY KZ KL
  have hoo : (O != O) = false := by simp
  go_wp2_with fail
  go_loopw [21] (fun i wr => ∃ j : Nat, i = .int .i64 (j : Int) ∧ j ≤ N ∧ Below w11.heap.size w11 wr) (fun i _ => N - (intOf i).toNat)
  case atStart => exact ⟨0, rfl, Nat.zero_le _, Below.refl _ _⟩
  case round =>
    obtain ⟨j, rfl, hj, hb⟩ := hrel
    by_cases hjn : j < N
    · have j0 : (0 : Int) ≤ (j : Int) := by omega
      have j1 : (j : Int) < (N : Int) := by omega
      obtain ⟨P, hx⟩ : ∃ P, L[j]? = some P := ⟨_, List.getElem?_eq_getElem (show j < L.length by rw [HN.out]; exact hjn)⟩
      obtain ⟨_, _, e1, k1⟩ := HV.out.on hb
      obtain ⟨_, _, e2, k2⟩ := HU.out.on hb
      rw [HN.out] at e1 e2
      cases e1; cases e2
      obtain ⟨a1, ha1, c1⟩ := k1 j _ hx
      obtain ⟨a2, ha2, c2⟩ := k2 j _ hx
      subst ha1; subst ha2
      have hpp : (P != P) = false := by simp
      have HN2 : Hid (∀ W, Below wr.heap.size wr W → ∃ i : Nat, Value.int .i64 ((j : Int) + 1) = .int .i64 (i : Int) ∧ i ≤ N ∧ Below w11.heap.size w11 W) := Lib.hid fun W hW => ⟨j + 1, ret_v (by omega), by omega, hb.trans (hW.mono hb.size)⟩
      clear k1 k2 hx hb
      go_wp2_with fail
      go_region
      all_goals go_wp2_with fail
      all_goals go_roundw
      all_goals first
        | (simp [intOf]; omega)
        | (refine HN2.out _ ?_; (repeat' (first | (with_reducible exact Below.refl _ _) | (with_reducible refine below_drewN ?_ _) | (with_reducible refine Below.drew ?_) | (with_reducible refine Below.alloc ?_ ?_ _) | (with_reducible refine Below.setCell ?_ ?_ _) | (with_reducible refine Below.trans ?_ (Below.mono (by with_reducible assumption) ?_)) | omega | (simp only [World.size_alloc, World.size_setCell, World.size_drew, Go.Proofs.YtlakabcbebahhaaDoor.World.size_drewN] at *; omega) | (with_reducible refine Below.size (B := 0) ?_))))
    · have j1 : ¬ (j : Int) < (N : Int) := by omega
      have HB := Lib.hid (B.out.trans (hb.mono B.out.size))
      clear hb
      go_wp2_with fail
      go_ret
      exact ⟨rfl, HB.out⟩
end Go.Proofs.YtlakabcbebahhaaDoor
