/- The walk of the law SpanTicks: whatever the numbers, it returns true. Condition: ErrArg lies where the program's text lays it. -/
import Derived.Test.YtlakabcbebahhaaDoorSpA
import Derived.Deep.DeepCutAuto
import Derived.Deep.CutBlock
namespace Go.Proofs.YtlakabcbebahhaaDoor
open Go Go.RowKit Go.Extern.Stop Go.Stop Go.Extern

theorem mod_in64 (i : Int) (k : Nat) (h0 : 0 < k) (h1 : k ≤ 2000000000) : ∃ m : Int, 0 ≤ m ∧ m < (k : Int) ∧ wrap64 ((IntKind.u64.wrap i).tmod (k : Int)) = m := by
  have hu : 0 ≤ IntKind.u64.wrap i := by rw [IntKind.wrap_u64]; omega
  have hk : (0 : Int) < (k : Int) := by omega
  have e : (IntKind.u64.wrap i).tmod (k : Int) = IntKind.u64.wrap i % (k : Int) := Int.tmod_eq_emod_of_nonneg hu
  have hlo := Int.emod_nonneg (IntKind.u64.wrap i) (Int.ne_of_gt hk)
  have hhi := Int.emod_lt_of_pos (IntKind.u64.wrap i) hk
  refine ⟨IntKind.u64.wrap i % (k : Int), hlo, hhi, ?_⟩
  rw [e]
  generalize IntKind.u64.wrap i % (k : Int) = z at hlo hhi
  unfold wrap64; omega

/-- A tick in its window, in plain words. -/
theorem ticks_at {t n : Int} (ht : 0 ≤ t) (ht2 : t < 1073739824) (hn : 1 ≤ n) (hn2 : n ≤ 1000) :
    ∃ q f k z : Int, winOf t n = (q, 0) ∧ beginOf q n = (f, 0) ∧ leftOf t n = (k, 0) ∧ winOf (t + 1) n = (z, 0) ∧ z = (if k = 1 then q + 1 else q) ∧ beginOf (q + 1) n = (t + k, 0) ∧
      f ≤ t ∧ t - f < n ∧ 1 ≤ k ∧ k ≤ n ∧ 0 ≤ q ∧ q ≤ 1073741823 ∧ 0 ≤ f := by
  have hl : lenB n = true := lenB_yes.2 ⟨hn, hn2⟩
  have h1 : numB t = true := numB_yes.2 ⟨ht, by omega⟩
  have h2 : numB (t + 1) = true := numB_yes.2 ⟨by omega, by omega⟩
  obtain ⟨_, q0, _, _⟩ := div_in h1 hl
  have q1 : t / n ≤ t := Int.ediv_le_self _ ht
  obtain ⟨_, r0, r1, _⟩ := mod_in h1 hl
  have e := Int.mul_ediv_add_emod t n
  have e' : t / n * n + t % n = t := by rw [Int.mul_comm]; exact e
  obtain ⟨q, hq⟩ : ∃ q, t / n = q := ⟨_, rfl⟩
  obtain ⟨r, hr⟩ : ∃ r, t % n = r := ⟨_, rfl⟩
  have f0 : 0 ≤ q * n := Int.mul_nonneg (by omega) (by omega)
  have e2 : (q + 1) * n = q * n + n := by rw [Int.add_mul, Int.one_mul]
  have w1 := win_yes h1 hl
  have w2 := left_yes h1 hl
  have w3 := win_yes h2 hl
  rw [hq] at q0 q1 e' w1
  rw [hr] at r0 r1 e' w2
  obtain ⟨f, hf⟩ : ∃ f, q * n = f := ⟨_, rfl⟩
  rw [hf] at e' f0 e2
  have hd : (t + 1) / n = if n - r = 1 then q + 1 else q := by
    by_cases c : n - r = 1
    · rw [if_pos c, show t + 1 = (q + 1) * n by omega]
      exact Int.mul_ediv_cancel _ (by omega)
    · rw [if_neg c, show t + 1 = (r + 1) + q * n by omega, Int.add_mul_ediv_right _ _ (by omega), Int.ediv_eq_zero_of_lt (by omega) (by omega), Int.zero_add]
  refine ⟨q, f, n - r, _, w1, ?_, w2, w3, hd, ?_, by omega, by omega, by omega, by omega, q0, by omega, f0⟩
  · simp only [beginOf, hl, hf, numB_yes.2 ⟨q0, show q ≤ 1073741824 by omega⟩, numB_yes.2 ⟨f0, show f ≤ 1073741824 by omega⟩, Bool.and_self, if_pos]
  · have g1 : numB (q + 1) = true := numB_yes.2 ⟨by omega, by omega⟩
    have g2 : numB (t + (n - r)) = true := numB_yes.2 ⟨by omega, by omega⟩
    have g3 : (q + 1) * n = t + (n - r) := by omega
    simp only [beginOf, hl, g1, g3, g2, Bool.and_self, if_pos]

set_option maxRecDepth 100000 in
set_option maxHeartbeats 3200000 in
theorem ticks_any (a : Addr) (x y : Int) (w : World) (hs : ArgAt a w) :
    Calls Tryd.prog 4 #[.int .i64 x, .int .i64 y] w fun e w' => e = .returned (.bool true) ∧ Below w.heap.size w w' := by
  have HS := Lib.hid hs; clear hs
  obtain ⟨t, t0, t1, et⟩ := mod_in64 x 1073739824 (by decide) (by decide)
  obtain ⟨m, m0, m1, em⟩ := mod_in64 y 1000 (by decide) (by decide)
  obtain ⟨n, hn⟩ : ∃ n, 1 + m = n := ⟨_, rfl⟩
  have en : wrap64 (1 + wrap64 ((IntKind.u64.wrap y).tmod 1000)) = n := by
    rw [show (1000 : Int) = ((1000 : Nat) : Int) from rfl, em]; unfold wrap64; omega
  have ET : Hid (wrap64 ((IntKind.u64.wrap x).tmod 1073739824) = t) := Lib.hid et
  have EN := Lib.hid en
  have n0 : 1 ≤ n := by omega
  have n1 : n ≤ 1000 := by omega
  have t2 : t < 1073739824 := by omega
  clear em m0 m1 hn t1 et en
  obtain ⟨q, f, k, z, h1, h2, h3, h4, hz, h5, f1, f2, k0, k1, q0, q1, f0⟩ := ticks_at t0 t2 n0 n1
  have H1 := Lib.hid h1; have H2 := Lib.hid h2; have H3 := Lib.hid h3; have H4 := Lib.hid h4; have H5 := Lib.hid h5; have HZ := Lib.hid hz
  clear h1 h2 h3 h4 h5 hz
  go_enter Tryd.func4, Tryd.ntmps4
  go_wp2_with fail
  refine (awake_c a _ HS.out).mono ?_
  rintro e w1 ⟨rfl, b1⟩
  have B := Lib.hid b1; clear b1
  go_wp2_with fail
  rw [ET.out, EN.out]
  refine (at_c a t n _ (HS.out.on B.out)).mono ?_
  rw [H1.out, errA_zero]
  rintro e w2 ⟨rfl, b2⟩
  replace B := Lib.hid (B.out.trans (b2.mono B.out.size)); clear b2
  go_wp2_with fail
  refine (first_c a q n _ (HS.out.on B.out)).mono ?_
  rw [H2.out, errA_zero]
  rintro e w3 ⟨rfl, b3⟩
  replace B := Lib.hid (B.out.trans (b3.mono B.out.size)); clear b3
  go_wp2_with fail
  refine (left_c a t n _ (HS.out.on B.out)).mono ?_
  rw [H3.out, errA_zero]
  rintro e w4 ⟨rfl, b4⟩
  replace B := Lib.hid (B.out.trans (b4.mono B.out.size)); clear b4
  go_wp2_with fail
  refine (at_c a (t + 1) n _ (HS.out.on B.out)).mono ?_
  rw [H4.out, errA_zero]
  rintro e w5 ⟨rfl, b5⟩
  replace B := Lib.hid (B.out.trans (b5.mono B.out.size)); clear b5
  go_wp2_with fail
  refine (first_c a (q + 1) n _ (HS.out.on B.out)).mono ?_
  rw [H5.out, errA_zero]
  rintro e w6 ⟨rfl, b6⟩
  replace B := Lib.hid (B.out.trans (b6.mono B.out.size)); clear b6
  clear H1 H2 H3 H4 H5 ET EN
  by_cases c : k = 1
  · subst c
    obtain rfl : z = q + 1 := by rw [HZ.out, if_pos rfl]
    go_wp2_with fail
    go_ret
    exact ⟨rfl, B.out⟩
  · have hk : 1 < k := by omega
    have hk2 : (k == 1) = false := by rw [beq_eq_false_iff_ne]; exact c
    obtain rfl : z = q := by rw [HZ.out, if_neg c]
    clear HZ
    go_wp2_with fail
    go_ret
    exact ⟨rfl, B.out⟩
end Go.Proofs.YtlakabcbebahhaaDoor
