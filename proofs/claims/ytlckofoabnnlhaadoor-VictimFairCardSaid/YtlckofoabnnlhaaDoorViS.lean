/- The order of guests and the library's slices.SortStableFunc by it, by contracts: a permutation. Condition: the row is one that the calls have made, of fewer than 20. -/
import Derived.Test.YtlckofoabnnlhaaDoorViE
import Derived.Test.YtlckofoabnnlhaaDoorCmp
import Derived.Test.YtlckofoabnnlhaaDoorErrs
import Derived.Test.YtlckofoabnnlhaaDoorRwS
import Derived.Shelf.SlSortCmp.InsertionK
import Derived.Sort.LotA
import Derived.Deep.RegionHeld3
import Derived.LoopTactic
import Derived.Handy
namespace Go.Proofs.YtlckofoabnnlhaaDoor
open Go Go.RowKit Go.Sort Go.Shelf

/-- The first of three that is not 0. -/
def or3 (a b c : Int) : Int := if a ≠ 0 then a else if b ≠ 0 then b else c
set_option maxRecDepth 100000 in
/-- cmp.Or at three numbers in a block. -/
theorem or3_c (g : Nat) (a b c : Int) (W : World) (h : W.heap[g]? = some (.cells #[.int .i64 a, .int .i64 b, .int .i64 c] 3 (0, 0))) :
    Calls Tryd.prog 26 #[.slice (some ⟨g, 0, none⟩) 3 3] W fun e w' => e = .returned (.int .i64 (or3 a b c)) ∧ w' = W := by
  have c0 := cell_of_heap h 0
  have c1 := cell_of_heap h 1
  have c2 := cell_of_heap h 2
  simp at c0 c1 c2
  clear h
  by_cases h0 : a = 0
  · subst h0
    by_cases h1 : b = 0
    · subst h1
      by_cases h2 : c = 0
      · subst h2
        rw [show or3 0 0 0 = 0 from rfl]
        go_enter Tryd.func26, Tryd.ntmps26
        go_wp2
        go_rounds 4
        go_ret
        exact ⟨rfl, rfl⟩
      · have e1 : (c != 0) = true := by simpa using h2
        rw [show or3 0 0 c = c from rfl]
        clear h2
        go_enter Tryd.func26, Tryd.ntmps26
        go_wp2
        go_rounds 4
        refine bodyPost_ret (v := .int .i64 c) (by simp [results, Tryd.results26, go_sem]) rfl ?_
        exact ⟨rfl, rfl⟩
    · have e1 : (b != 0) = true := by simpa using h1
      rw [show or3 0 b c = b from by unfold or3; rw [if_neg (by simp), if_pos h1]]
      clear h1
      go_enter Tryd.func26, Tryd.ntmps26
      go_wp2
      go_rounds 4
      refine bodyPost_ret (v := .int .i64 b) (by simp [results, Tryd.results26, go_sem]) rfl ?_
      exact ⟨rfl, rfl⟩
  · have e0 : (a != 0) = true := by simpa using h0
    rw [show or3 a b c = a from if_pos h0]
    clear h0
    go_enter Tryd.func26, Tryd.ntmps26
    go_wp2
    go_rounds 4
    refine bodyPost_ret (v := .int .i64 a) (by simp [results, Tryd.results26, go_sem]) rfl ?_
    exact ⟨rfl, rfl⟩

def cmpG (x y : Gst) : Int := or3 (cmpI y.band x.band) (cmpI y.task.job x.task.job) (cmpI y.task.ix x.task.ix)
set_option maxRecDepth 100000 in
set_option maxHeartbeats 1600000 in
/-- The program's order of guests. -/
theorem gorder_c (x y : Gst) (W : World) : Calls Tryd.prog 15 #[.agg #[.int .i64 x.task.job, .int .i64 x.task.ix, .int .i64 x.band, .bool x.env, .int .i64 x.need.a, .int .i64 x.need.b, .int .i64 x.need.c, .int .i64 x.need.d], .agg #[.int .i64 y.task.job, .int .i64 y.task.ix, .int .i64 y.band, .bool y.env, .int .i64 y.need.a, .int .i64 y.need.b, .int .i64 y.need.c, .int .i64 y.need.d]] W fun e w' => e = .returned (.int .i64 (cmpG x y)) ∧ Gw W w' := by
  obtain ⟨⟨a, b⟩, c, d, ⟨e, f, g, h⟩⟩ := x
  obtain ⟨⟨a', b'⟩, c', d', ⟨e', f', g', h'⟩⟩ := y
  unfold cmpG
  simp only
  have ca := compare_c c' c
  have cb := compare_c a' a
  have cc := compare_c b' b
  have co := or3_c
  obtain ⟨A, hA⟩ : ∃ A, cmpI c' c = A := ⟨_, rfl⟩
  obtain ⟨B, hB⟩ : ∃ B, cmpI a' a = B := ⟨_, rfl⟩
  obtain ⟨C, hC⟩ : ∃ C, cmpI b' b = C := ⟨_, rfl⟩
  rw [hA] at ca; rw [hB] at cb; rw [hC] at cc
  rw [hA, hB, hC]
  have CA := Lib.hid ca; have CB := Lib.hid cb; have CC := Lib.hid cc; have CO := Lib.hid co
  clear hA hB hC ca cb cc co
  go_enter Tryd.func15, Tryd.ntmps15
  go_wp2_with fail
  obtain ⟨X, hX⟩ : ∃ X, W.heap.size = X := ⟨_, rfl⟩
  obtain ⟨W2, hW2⟩ : ∃ W2, (W.alloc (.cells #[.int .i64 a, .int .i64 b, .int .i64 c, .bool d, .int .i64 e, .int .i64 f, .int .i64 g, .int .i64 h] 35)).alloc (.cells #[.int .i64 a', .int .i64 b', .int .i64 c', .bool d', .int .i64 e', .int .i64 f', .int .i64 g', .int .i64 h'] 35) = W2 := ⟨_, rfl⟩
  have HG : Hid (Gw W W2) := Lib.hid (by rw [← hW2]; exact ((Gw.refl W).alloc _).alloc _)
  have hx : W2.heap[X]? = some (.cells #[.int .i64 a, .int .i64 b, .int .i64 c, .bool d, .int .i64 e, .int .i64 f, .int .i64 g, .int .i64 h] 35 (0, 0)) := by
    rw [← hW2, ← hX]; exact (Below.heap_alloc _ _ _ (by simp)).trans (heap_alloc_new W _)
  have hy : W2.heap[X + 1]? = some (.cells #[.int .i64 a', .int .i64 b', .int .i64 c', .bool d', .int .i64 e', .int .i64 f', .int .i64 g', .int .i64 h'] 35 (0, 0)) := by
    have := heap_alloc_new (W.alloc (.cells #[.int .i64 a, .int .i64 b, .int .i64 c, .bool d, .int .i64 e, .int .i64 f, .int .i64 g, .int .i64 h] 35)) (.cells #[.int .i64 a', .int .i64 b', .int .i64 c', .bool d', .int .i64 e', .int .i64 f', .int .i64 g', .int .i64 h'] 35)
    rw [World.size_alloc, hW2, hX] at this; exact this
  have HC : Hid (∀ w' : World, Gw W2 w' → w'.cell? ⟨X, 0, none⟩ = some (.int .i64 a) ∧ w'.cell? ⟨X, 1, none⟩ = some (.int .i64 b) ∧ w'.cell? ⟨X, 2, none⟩ = some (.int .i64 c) ∧ w'.cell? ⟨X + 1, 0, none⟩ = some (.int .i64 a') ∧ w'.cell? ⟨X + 1, 1, none⟩ = some (.int .i64 b') ∧ w'.cell? ⟨X + 1, 2, none⟩ = some (.int .i64 c') ∧ Gw W2 w') := Lib.hid fun w' h => by
    have h1 : w'.heap[X]? = _ := (h.below.block X (lt_of_row hx)).trans hx
    have h2 : w'.heap[X + 1]? = _ := (h.below.block (X + 1) (lt_of_row hy)).trans hy
    exact ⟨cell_of_heap h1 0, cell_of_heap h1 1, cell_of_heap h1 2, cell_of_heap h2 0, cell_of_heap h2 1, cell_of_heap h2 2, h⟩
  have HR : Hid (Gw W2 W2) := Lib.hid (Gw.refl W2)
  have HO : Hid ((W2.alloc (.cells #[.int .i64 A, .int .i64 B, .int .i64 C] 3)).drew.heap[W2.heap.size]? = some (.cells #[.int .i64 A, .int .i64 B, .int .i64 C] 3 (0, 0))) := Lib.hid (heap_alloc_new W2 _)
  rw [hW2, hX]
  clear hx hy hW2 hX
  go_region_held3 (fun w' => w'.cell? ⟨X, 0, none⟩ = some (.int .i64 a) ∧ w'.cell? ⟨X, 1, none⟩ = some (.int .i64 b) ∧ w'.cell? ⟨X, 2, none⟩ = some (.int .i64 c) ∧ w'.cell? ⟨X + 1, 0, none⟩ = some (.int .i64 a') ∧ w'.cell? ⟨X + 1, 1, none⟩ = some (.int .i64 b') ∧ w'.cell? ⟨X + 1, 2, none⟩ = some (.int .i64 c') ∧ Gw W2 w')
    (first | (exact HC.out _ (by repeat' (first | (with_reducible exact HR.out) | (with_reducible assumption) | (with_reducible refine Gw.drewN ?_ _) | (with_reducible refine Gw.drew ?_) | (with_reducible refine Gw.alloc ?_ _)))))
    (first
      | (go_at_call 27; (with_reducible refine (CA.out _).mono ?_); rintro e w ⟨rfl, rfl⟩)
      | (go_at_call 27; (with_reducible refine (CB.out _).mono ?_); rintro e w ⟨rfl, rfl⟩)
      | (go_at_call 27; (with_reducible refine (CC.out _).mono ?_); rintro e w ⟨rfl, rfl⟩)
      | (go_at_call 26; (with_reducible refine (CO.out _ A B C _ HO.out).mono ?_); rintro e w ⟨rfl, rfl⟩))
  all_goals go_wp2_with fail
  all_goals (go_ret; exact ⟨rfl, HG.out.trans (by repeat' (first | (with_reducible exact HR.out) | (with_reducible assumption) | (with_reducible refine Gw.drewN ?_ _) | (with_reducible refine Gw.drew ?_) | (with_reducible refine Gw.alloc ?_ _)))⟩)

/-- The numbers of the library's text in this program. -/
def renGS : Ren := ⟨fun | 20 => 35 | n => n, fun | 0 => 0 | 3 => 3 | 4 => 4 | 22 => 29 | 24 => 35 | 25 => 55 | n => n, fun n => n⟩
theorem layGS : SlLaysF0.n20 Tryd.prog renGS where
  mixed := by kernel_rfl
  f20 := ⟨Tryd.f35.name, by kernel_rfl, Tryd.func35.trans (congrArg some (by kernel_rfl))⟩
  t0 := Tryd.underlying0
  a0 := Tryd.isAgg0
  z0 := Tryd.sizeOf0
  v0 := Tryd.zeroValue0
  t3 := Tryd.underlying3
  a3 := Tryd.isAgg3
  z3 := Tryd.sizeOf3
  v3 := Tryd.zeroValue3
  t4 := Tryd.underlying4
  a4 := Tryd.isAgg4
  z4 := Tryd.sizeOf4
  v4 := Tryd.zeroValue4
  t22 := Tryd.underlying29
  a22 := Tryd.isAgg29
  z22 := Tryd.sizeOf29
  v22 := Tryd.zeroValue29
  t25 := Tryd.underlying55
  a25 := Tryd.isAgg55
  z25 := Tryd.sizeOf55
  v25 := Tryd.zeroValue55
instance : Inhabited Gst := ⟨⟨⟨0, 0⟩, 0, false, ⟨0, 0, 0, 0⟩⟩⟩
theorem cmpLaysG (blk off size : Nat) (w : World) : CmpLays Tryd.prog 15 #[] encGst.enc 8 cmpG blk off size w := fun _ _ _ _ x y => gorder_c x y _
/-- Who goes first. -/
def lessG (x y : Gst) : Prop := y.band < x.band ∨ (y.band = x.band ∧ (y.task.job < x.task.job ∨ (y.task.job = x.task.job ∧ y.task.ix < x.task.ix)))
theorem cmpG_less (x y : Gst) : ltOf cmpG x y = true ↔ lessG x y := by
  unfold ltOf cmpG or3 lessG
  rw [decide_eq_true_eq]
  rcases cmpI_cases y.band x.band with ⟨h0, e0⟩ | ⟨h0, e0⟩ | ⟨h0, e0⟩ <;> rw [e0]
  · simp; omega
  · simp
    rcases cmpI_cases y.task.job x.task.job with ⟨h1, e1⟩ | ⟨h1, e1⟩ | ⟨h1, e1⟩ <;> rw [e1]
    · simp; omega
    · simp
      rcases cmpI_cases y.task.ix x.task.ix with ⟨h2, e2⟩ | ⟨h2, e2⟩ | ⟨h2, e2⟩ <;> rw [e2] <;> simp <;> omega
    · simp; omega
  · simp; omega
theorem ltG_false {x y : Gst} : ltOf cmpG x y = false ↔ ¬ lessG x y := by
  rw [← cmpG_less]; cases ltOf cmpG x y <;> simp
/-- It is a strict weak order. -/
theorem swoG : SWO (ltOf cmpG) where
  irrefl x := by rw [ltG_false]; unfold lessG; omega
  trans x y z h1 h2 := by rw [cmpG_less] at *; unfold lessG at *; omega
  ntrans x y z h1 h2 := by rw [ltG_false] at *; unfold lessG at *; omega
/-- slices.insertionSortCmpFunc over a whole row. -/
theorem insG_c (base : Nat) (v : Value) (L : List Gst) (w : World) (h : OwnE encGst 35 w base v L) (hl : L.length ≤ 1000000) :
    Calls Tryd.prog 35 #[v, .int .i64 0, .int .i64 L.length, .func (.func 15) #[] #[]] w fun e w' => e = .returned (.tuple #[]) ∧ ∃ M : List Gst, M.Perm L ∧ OwnE encGst 35 w' base v M ∧ w.grownBy w' v.ownBlock := by
  rcases ownE_shape h with ⟨rfl, hnil⟩ | ⟨g, cap, rfl, hb, hg, hH, hown⟩
  · subst hnil
    have FG := Tryd.func35
    go_enter FG, Tryd.ntmps35
    go_wp2
    refine wp_loop_rounds 1 ?_
    rw [rounds_succ]
    go_wp2
    go_end0
    exact ⟨rfl, [], List.Perm.refl _, h, World.grownBy.refl _ _⟩
  · have eg : ∀ args w, (callFunc 15 args).run Tryd.prog w = .ok (.enter 15 args) w := enters_of Tryd.func15 (by kernel_rfl) rfl
    have hsz : L.toArray.size = L.length := by simp
    have hcon := AnyQ.insertionSortCmpFunc layGS 8 Tryd.isAgg35 Tryd.sizeOf35 encGst.enc encGst.len encGst.one cmpG 15 #[] g 0 cap 0 L.toArray.size L.toArray w eg (cmpLaysG g 0 _ w) hH hg (Nat.zero_le _) (Nat.le_refl _) (by rw [hsz]; omega)
    rw [hsz] at hcon
    refine hcon.mono ?_
    rintro e w' ⟨rfl, n, os, rfl⟩
    have k1 := (insertionSort_holds swoG L.toArray 0 L.toArray.size (Nat.zero_le _) (Nat.le_refl _)).1.2.2
    have k0 := (insertionSort_holds swoG L.toArray 0 L.toArray.size (Nat.zero_le _) (Nat.le_refl _)).1.1
    rw [hsz] at k0 k1
    have e1 : (insertionSort (ltOf cmpG) L.toArray 0 L.length).extract 0 L.length = insertionSort (ltOf cmpG) L.toArray 0 L.length := by
      have ex : ∀ z : Array Gst, z.size = L.length → z.extract 0 L.length = z := fun z hz => by rw [← hz]; simp
      exact ex _ k0
    have e2 : L.toArray.extract 0 L.length = L.toArray := by simp
    have k3 : (insertionSort (ltOf cmpG) L.toArray 0 L.length).toList.Perm L := by rw [e1, e2] at k1; simpa using k1
    obtain ⟨r1, r2⟩ := hown n os (insertionSort (ltOf cmpG) L.toArray 0 L.length).toList k3.length_eq
    have ed : (insertionSort (ltOf cmpG) L.toArray 0 L.length).toList.toArray = insertionSort (ltOf cmpG) L.toArray 0 L.length := by simp
    rw [ed] at r1 r2
    exact ⟨rfl, _, k3, r1, r2⟩
set_option maxRecDepth 100000 in
/-- slices.stableCmpFunc over a row of fewer than 20. -/
theorem stableG_c (base : Nat) (A : Option Addr) (c : Nat) (L : List Gst) (w : World) (h : OwnE encGst 35 w base (.slice A L.length c) L) (hl : L.length < 20) :
    Calls Tryd.prog 25 #[.slice A L.length c, .int .i64 L.length, .func (.func 15) #[] #[]] w fun e w' => e = .returned (.tuple #[]) ∧ ∃ M : List Gst, M.Perm L ∧ OwnE encGst 35 w' base (.slice A L.length c) M ∧ w.grownBy w' (Value.slice A L.length c).ownBlock := by
  have HI := Lib.hid (insG_c base _ L w h (by omega))
  have hz : ¬ (20 : Int) ≤ (L.length : Int) := by omega
  have hz2 : ¬ (20 : Int) < (L.length : Int) := by omega
  clear h
  go_enter Tryd.func25, Tryd.ntmps25
  go_wp2_with fail
  refine wp_loop_rounds 1 ?_
  rw [rounds_succ]
  go_wp2_with fail
  refine HI.out.mono ?_
  rintro e w1 ⟨rfl, M, hp, ho, hg⟩
  have HP := Lib.hid hp; have HO := Lib.hid ho; have HG := Lib.hid hg
  clear hp ho hg
  go_wp2_with fail
  refine wp_loop_rounds 1 ?_
  rw [rounds_succ]
  go_wp2_with fail
  go_end0
  exact ⟨rfl, M, HP.out, HO.out, HG.out⟩
set_option maxRecDepth 100000 in
/-- slices.SortStableFunc over a row of fewer than 20. -/
theorem sortG_c (base : Nat) (A : Option Addr) (c : Nat) (L : List Gst) (w : World) (h : OwnE encGst 35 w base (.slice A L.length c) L) (hl : L.length < 20) :
    Calls Tryd.prog 14 #[.slice A L.length c, .func (.func 15) #[] #[]] w fun e w' => e = .returned (.tuple #[]) ∧ ∃ M : List Gst, M.Perm L ∧ OwnE encGst 35 w' base (.slice A L.length c) M ∧ w.grownBy w' (Value.slice A L.length c).ownBlock := by
  have HI := Lib.hid (stableG_c base A c L w h hl)
  clear h
  go_enter Tryd.func14, Tryd.ntmps14
  go_wp2_with fail
  refine HI.out.mono ?_
  rintro e w1 ⟨rfl, M, hp, ho, hg⟩
  have HP := Lib.hid hp; have HO := Lib.hid ho; have HG := Lib.hid hg
  clear hp ho hg
  go_wp2_with fail
  go_end0
  exact ⟨rfl, M, HP.out, HO.out, HG.out⟩
end Go.Proofs.YtlckofoabnnlhaaDoor
