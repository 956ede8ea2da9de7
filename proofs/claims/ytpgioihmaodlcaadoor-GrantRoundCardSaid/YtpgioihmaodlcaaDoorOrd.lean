/- The order of keys of four numbers: a, then b, c and d; cmp.Compare, cmp.Or and the program's own order by contracts. No conditions. -/
import Derived.Test.YtpgioihmaodlcaaDoorR4
import Derived.Shelf.SlSortCmp.WholeK
import Derived.Deep.RegionHeld3
import Derived.LoopTactic
import Derived.Lib.Hide
namespace Go.Proofs.YtpgioihmaodlcaaDoor
open Go Go.RowKit Go.Sort

/-- Go's comparison of two numbers. -/
def cmpI (x y : Int) : Int := if x < y then -1 else if y < x then 1 else 0
/-- The first of four that is not 0. -/
def or4 (a b c d : Int) : Int := if a ≠ 0 then a else if b ≠ 0 then b else if c ≠ 0 then c else d
/-- The order of keys. -/
def cmpV (x y : V4) : Int := or4 (cmpI x.a y.a) (cmpI x.b y.b) (cmpI x.c y.c) (cmpI x.d y.d)
/-- One key stands ahead of another. -/
def lessV4 (x y : V4) : Prop := x.a < y.a ∨ (x.a = y.a ∧ (x.b < y.b ∨ (x.b = y.b ∧ (x.c < y.c ∨ (x.c = y.c ∧ x.d < y.d)))))
theorem cmpI_cases (x y : Int) : (x < y ∧ cmpI x y = -1) ∨ (x = y ∧ cmpI x y = 0) ∨ (y < x ∧ cmpI x y = 1) := by
  unfold cmpI
  by_cases h : x < y
  · exact .inl ⟨h, if_pos h⟩
  · rw [if_neg h]
    by_cases k : y < x
    · exact .inr (.inr ⟨k, if_pos k⟩)
    · exact .inr (.inl ⟨by omega, if_neg k⟩)
theorem cmpV_less (x y : V4) : ltOf cmpV x y = true ↔ lessV4 x y := by
  unfold ltOf cmpV or4 lessV4
  rw [decide_eq_true_eq]
  rcases cmpI_cases x.a y.a with ⟨h0, e0⟩ | ⟨h0, e0⟩ | ⟨h0, e0⟩ <;> rw [e0]
  · simp; omega
  · simp
    rcases cmpI_cases x.b y.b with ⟨h1, e1⟩ | ⟨h1, e1⟩ | ⟨h1, e1⟩ <;> rw [e1]
    · simp; omega
    · simp
      rcases cmpI_cases x.c y.c with ⟨h2, e2⟩ | ⟨h2, e2⟩ | ⟨h2, e2⟩ <;> rw [e2]
      · simp; omega
      · simp
        rcases cmpI_cases x.d y.d with ⟨h3, e3⟩ | ⟨h3, e3⟩ | ⟨h3, e3⟩ <;> rw [e3] <;> simp <;> omega
      · simp; omega
    · simp; omega
  · simp; omega
theorem ltV_false {x y : V4} : ltOf cmpV x y = false ↔ ¬ lessV4 x y := by
  rw [← cmpV_less]; cases ltOf cmpV x y <;> simp
/-- It is a strict weak order. -/
theorem swoV : SWO (ltOf cmpV) where
  irrefl x := by rw [ltV_false]; unfold lessV4; omega
  trans x y z h1 h2 := by rw [cmpV_less] at *; unfold lessV4 at *; omega
  ntrans x y z h1 h2 := by rw [ltV_false] at *; unfold lessV4 at *; omega

theorem isNaN_c (x : Int) (W : World) : Calls Tryd.prog 47 #[.int .i64 x] W fun e w' => e = .returned (.bool false) ∧ w' = W := by
  have e0 : (x != x) = false := by simp
  go_enter Tryd.func47, Tryd.ntmps47
  go_wp2
  go_ret
  exact ⟨by simp, rfl⟩
/-- cmp.Compare at numbers. -/
theorem compare_c (x y : Int) (W : World) : Calls Tryd.prog 38 #[.int .i64 x, .int .i64 y] W fun e w' => e = .returned (.int .i64 (cmpI x y)) ∧ w' = W := by
  by_cases h : x < y
  · have e : cmpI x y = -1 := if_pos h
    rw [e]
    go_enter Tryd.func38, Tryd.ntmps38
    go_wp2_with (go_at_call 47; refine (isNaN_c _ _).mono ?_; rintro e w' ⟨rfl, rfl⟩)
    refine bodyPost_ret (v := .int .i64 (-1)) (by simp [results, Tryd.results38, go_sem]) rfl ?_
    exact ⟨rfl, rfl⟩
  · by_cases k : y < x
    · have e : cmpI x y = 1 := by unfold cmpI; rw [if_neg h, if_pos k]
      rw [e]
      go_enter Tryd.func38, Tryd.ntmps38
      go_wp2_with (go_at_call 47; refine (isNaN_c _ _).mono ?_; rintro e w' ⟨rfl, rfl⟩)
      refine bodyPost_ret (v := .int .i64 1) (by simp [results, Tryd.results38, go_sem]) rfl ?_
      exact ⟨rfl, rfl⟩
    · have e : cmpI x y = 0 := by unfold cmpI; rw [if_neg h, if_neg k]
      rw [e]
      go_enter Tryd.func38, Tryd.ntmps38
      go_wp2_with (go_at_call 47; refine (isNaN_c _ _).mono ?_; rintro e w' ⟨rfl, rfl⟩)
      go_ret
      exact ⟨rfl, rfl⟩
set_option maxRecDepth 100000 in
/-- cmp.Or at four numbers in a block. -/
theorem or_c (g : Nat) (a b c d : Int) (W : World) (h : W.heap[g]? = some (.cells #[.int .i64 a, .int .i64 b, .int .i64 c, .int .i64 d] 3 (0, 0))) :
    Calls Tryd.prog 37 #[.slice (some ⟨g, 0, none⟩) 4 4] W fun e w' => e = .returned (.int .i64 (or4 a b c d)) ∧ w' = W := by
  have c0 := cell_of_heap h 0
  have c1 := cell_of_heap h 1
  have c2 := cell_of_heap h 2
  have c3 := cell_of_heap h 3
  simp at c0 c1 c2 c3
  clear h
  by_cases h0 : a = 0
  · subst h0
    by_cases h1 : b = 0
    · subst h1
      by_cases h2 : c = 0
      · subst h2
        by_cases h3 : d = 0
        · subst h3
          rw [show or4 0 0 0 0 = 0 from rfl]
          go_enter Tryd.func37, Tryd.ntmps37
          go_wp2
          go_rounds 5
          go_ret
          exact ⟨rfl, rfl⟩
        · rw [show or4 0 0 0 d = d from rfl]
          have e3 : (d != 0) = true := by simpa using h3
          clear h3
          go_enter Tryd.func37, Tryd.ntmps37
          go_wp2
          go_rounds 5
          refine bodyPost_ret (v := .int .i64 d) (by simp [results, Tryd.results37, go_sem]) rfl ?_
          exact ⟨rfl, rfl⟩
      · have e2 : (c != 0) = true := by simpa using h2
        rw [show or4 0 0 c d = c from if_pos h2]
        clear h2
        go_enter Tryd.func37, Tryd.ntmps37
        go_wp2
        go_rounds 5
        refine bodyPost_ret (v := .int .i64 c) (by simp [results, Tryd.results37, go_sem]) rfl ?_
        exact ⟨rfl, rfl⟩
    · have e1 : (b != 0) = true := by simpa using h1
      rw [show or4 0 b c d = b from if_pos h1]
      clear h1
      go_enter Tryd.func37, Tryd.ntmps37
      go_wp2
      go_rounds 5
      refine bodyPost_ret (v := .int .i64 b) (by simp [results, Tryd.results37, go_sem]) rfl ?_
      exact ⟨rfl, rfl⟩
  · have e0 : (a != 0) = true := by simpa using h0
    rw [show or4 a b c d = a from if_pos h0]
    clear h0
    go_enter Tryd.func37, Tryd.ntmps37
    go_wp2
    go_rounds 5
    refine bodyPost_ret (v := .int .i64 a) (by simp [results, Tryd.results37, go_sem]) rfl ?_
    exact ⟨rfl, rfl⟩

/-- Draws and new blocks behind a world. -/
def Gw (w w' : World) : Prop := ∃ q os, w' = grow (w.drewN q) os
theorem Gw.refl (w : World) : Gw w w := ⟨0, #[], by rw [grow_empty]; rfl⟩
theorem Gw.drewN {w w' : World} (h : Gw w w') (n : Nat) : Gw w (w'.drewN n) := by
  obtain ⟨q, os, rfl⟩ := h
  exact ⟨q + n, os, by simp [grow, World.drewN, Nat.add_assoc]⟩
theorem Gw.drew {w w' : World} (h : Gw w w') : Gw w w'.drew := by
  obtain ⟨q, os, rfl⟩ := h
  exact ⟨q + 1, os, by simp [grow, World.drewN, World.drew, Nat.add_assoc]⟩
theorem Gw.alloc {w w' : World} (h : Gw w w') (o : Obj) : Gw w (w'.alloc o) := by
  obtain ⟨q, os, rfl⟩ := h
  exact ⟨q, os ++ #[o], by rw [alloc_eq_grow, grow_grow]⟩
theorem Gw.below {w w' : World} (h : Gw w w') : Below w.heap.size w w' := by
  obtain ⟨q, os, rfl⟩ := h
  refine ⟨rfl, rfl, rfl, by simp [grow, World.drewN], fun k hk => ?_⟩
  rw [heap_grow_old _ _ (by simpa [World.drewN] using hk)]; rfl
theorem Gw.trans {a b c : World} (h : Gw a b) (k : Gw b c) : Gw a c := by
  obtain ⟨q, os, rfl⟩ := h
  obtain ⟨q', os', rfl⟩ := k
  exact ⟨q + q', os ++ os', by simp [grow, World.drewN, Nat.add_assoc]⟩

set_option maxRecDepth 100000 in
set_option maxHeartbeats 1600000 in
/-- The program's order of keys. -/
theorem order_c (x y : V4) (W : World) : Calls Tryd.prog 26 #[.agg #[.int .i64 x.a, .int .i64 x.b, .int .i64 x.c, .int .i64 x.d], .agg #[.int .i64 y.a, .int .i64 y.b, .int .i64 y.c, .int .i64 y.d]] W fun e w' => e = .returned (.int .i64 (cmpV x y)) ∧ Gw W w' := by
  obtain ⟨a, b, c, d⟩ := x
  obtain ⟨a', b', c', d'⟩ := y
  unfold cmpV
  simp only
  have ca := compare_c a a'
  have cb := compare_c b b'
  have cc := compare_c c c'
  have cd := compare_c d d'
  have co := or_c
  obtain ⟨A, hA⟩ : ∃ A, cmpI a a' = A := ⟨_, rfl⟩
  obtain ⟨B, hB⟩ : ∃ B, cmpI b b' = B := ⟨_, rfl⟩
  obtain ⟨C, hC⟩ : ∃ C, cmpI c c' = C := ⟨_, rfl⟩
  obtain ⟨D, hD⟩ : ∃ D, cmpI d d' = D := ⟨_, rfl⟩
  rw [hA] at ca; rw [hB] at cb; rw [hC] at cc; rw [hD] at cd
  rw [hA, hB, hC, hD]
  have CA := Lib.hid ca; have CB := Lib.hid cb; have CC := Lib.hid cc; have CD := Lib.hid cd; have CO := Lib.hid co
  clear hA hB hC hD ca cb cc cd co
  go_enter Tryd.func26, Tryd.ntmps26
  go_wp2_with fail
  obtain ⟨X, hX⟩ : ∃ X, W.heap.size = X := ⟨_, rfl⟩
  obtain ⟨W2, hW2⟩ : ∃ W2, (W.alloc (.cells #[.int .i64 a, .int .i64 b, .int .i64 c, .int .i64 d] 31)).alloc (.cells #[.int .i64 a', .int .i64 b', .int .i64 c', .int .i64 d'] 31) = W2 := ⟨_, rfl⟩
  have HG : Hid (Gw W W2) := Lib.hid (by rw [← hW2]; exact ((Gw.refl W).alloc _).alloc _)
  have hx : W2.heap[X]? = some (.cells #[.int .i64 a, .int .i64 b, .int .i64 c, .int .i64 d] 31 (0, 0)) := by
    rw [← hW2, ← hX]; exact (Below.heap_alloc _ _ _ (by simp)).trans (heap_alloc_new W _)
  have hy : W2.heap[X + 1]? = some (.cells #[.int .i64 a', .int .i64 b', .int .i64 c', .int .i64 d'] 31 (0, 0)) := by
    have := heap_alloc_new (W.alloc (.cells #[.int .i64 a, .int .i64 b, .int .i64 c, .int .i64 d] 31)) (.cells #[.int .i64 a', .int .i64 b', .int .i64 c', .int .i64 d'] 31)
    rw [World.size_alloc, hW2, hX] at this; exact this
  have HC : Hid (∀ w' : World, Gw W2 w' → w'.cell? ⟨X, 0, none⟩ = some (.int .i64 a) ∧ w'.cell? ⟨X, 1, none⟩ = some (.int .i64 b) ∧ w'.cell? ⟨X, 2, none⟩ = some (.int .i64 c) ∧ w'.cell? ⟨X, 3, none⟩ = some (.int .i64 d) ∧
      w'.cell? ⟨X + 1, 0, none⟩ = some (.int .i64 a') ∧ w'.cell? ⟨X + 1, 1, none⟩ = some (.int .i64 b') ∧ w'.cell? ⟨X + 1, 2, none⟩ = some (.int .i64 c') ∧ w'.cell? ⟨X + 1, 3, none⟩ = some (.int .i64 d') ∧ Gw W2 w') := Lib.hid fun w' h => by
    have h1 : w'.heap[X]? = _ := (h.below.block X (lt_of_row hx)).trans hx
    have h2 : w'.heap[X + 1]? = _ := (h.below.block (X + 1) (lt_of_row hy)).trans hy
    exact ⟨cell_of_heap h1 0, cell_of_heap h1 1, cell_of_heap h1 2, cell_of_heap h1 3, cell_of_heap h2 0, cell_of_heap h2 1, cell_of_heap h2 2, cell_of_heap h2 3, h⟩
  have HR : Hid (Gw W2 W2) := Lib.hid (Gw.refl W2)
  have HO : Hid ((W2.alloc (.cells #[.int .i64 A, .int .i64 B, .int .i64 C, .int .i64 D] 3)).drew.heap[W2.heap.size]? = some (.cells #[.int .i64 A, .int .i64 B, .int .i64 C, .int .i64 D] 3 (0, 0))) := Lib.hid (heap_alloc_new W2 _)
  rw [hW2, hX]
  clear hx hy hW2 hX
  go_region_held3 (fun w' => w'.cell? ⟨X, 0, none⟩ = some (.int .i64 a) ∧ w'.cell? ⟨X, 1, none⟩ = some (.int .i64 b) ∧ w'.cell? ⟨X, 2, none⟩ = some (.int .i64 c) ∧ w'.cell? ⟨X, 3, none⟩ = some (.int .i64 d) ∧
      w'.cell? ⟨X + 1, 0, none⟩ = some (.int .i64 a') ∧ w'.cell? ⟨X + 1, 1, none⟩ = some (.int .i64 b') ∧ w'.cell? ⟨X + 1, 2, none⟩ = some (.int .i64 c') ∧ w'.cell? ⟨X + 1, 3, none⟩ = some (.int .i64 d') ∧ Gw W2 w')
    (first | (exact HC.out _ (by repeat' (first | (with_reducible exact HR.out) | (with_reducible assumption) | (with_reducible refine Gw.drewN ?_ _) | (with_reducible refine Gw.drew ?_) | (with_reducible refine Gw.alloc ?_ _)))))
    (first
      | (go_at_call 38; (with_reducible refine (CA.out _).mono ?_); rintro e w ⟨rfl, rfl⟩)
      | (go_at_call 38; (with_reducible refine (CB.out _).mono ?_); rintro e w ⟨rfl, rfl⟩)
      | (go_at_call 38; (with_reducible refine (CC.out _).mono ?_); rintro e w ⟨rfl, rfl⟩)
      | (go_at_call 38; (with_reducible refine (CD.out _).mono ?_); rintro e w ⟨rfl, rfl⟩)
      | (go_at_call 37; (with_reducible refine (CO.out _ A B C D _ HO.out).mono ?_); rintro e w ⟨rfl, rfl⟩))
  all_goals go_wp2_with fail
  all_goals (go_ret; exact ⟨rfl, HG.out.trans (by repeat' (first | (with_reducible exact HR.out) | (with_reducible assumption) | (with_reducible refine Gw.drewN ?_ _) | (with_reducible refine Gw.drew ?_) | (with_reducible refine Gw.alloc ?_ _)))⟩)
end Go.Proofs.YtpgioihmaodlcaaDoor
