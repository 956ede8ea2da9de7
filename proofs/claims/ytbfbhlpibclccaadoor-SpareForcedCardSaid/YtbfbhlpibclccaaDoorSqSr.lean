/- The order of counts: by job, then by window; the program's own order and the library's slices.SortFunc by it, by contracts. Condition: the row is one that the calls have made. -/
import Derived.Test.YtbfbhlpibclccaaDoorSqK
import Derived.Test.YtbfbhlpibclccaaDoorOr2
import Derived.Test.YtbfbhlpibclccaaDoorErrs
import Derived.Shelf.SlSortCmp.WholeK
import Derived.Shelf.SlSortCmp.NoneTotal
import Derived.Deep.RegionHeld3
namespace Go.Proofs.YtbfbhlpibclccaaDoor
open Go Go.RowKit Go.Sort Go.Shelf

def cmpC (x y : Ct) : Int := or2 (cmpI x.job y.job) (cmpI x.win y.win)
theorem cmpC_less (x y : Ct) : ltOf cmpC x y = true ↔ ltC x y := by
  unfold ltOf cmpC or2 ltC
  rw [decide_eq_true_eq]
  rcases cmpI_cases x.job y.job with ⟨h0, e0⟩ | ⟨h0, e0⟩ | ⟨h0, e0⟩ <;> rw [e0]
  · simp; omega
  · simp
    rcases cmpI_cases x.win y.win with ⟨h1, e1⟩ | ⟨h1, e1⟩ | ⟨h1, e1⟩ <;> rw [e1] <;> simp <;> omega
  · simp; omega
theorem ltC_false {x y : Ct} : ltOf cmpC x y = false ↔ ¬ ltC x y := by
  rw [← cmpC_less]; cases ltOf cmpC x y <;> simp
/-- It is a strict weak order. -/
theorem swoC : SWO (ltOf cmpC) where
  irrefl x := by rw [ltC_false]; unfold ltC; omega
  trans x y z h1 h2 := by rw [cmpC_less] at *; unfold ltC at *; omega
  ntrans x y z h1 h2 := by rw [ltC_false] at *; unfold ltC at *; omega

set_option maxRecDepth 100000 in
set_option maxHeartbeats 1600000 in
/-- The program's order of counts. -/
theorem corder_c (x y : Ct) (W : World) : Calls Tryd.prog 60 #[.agg #[.int .i64 x.job, .int .i64 x.win, .int .i64 x.free, .int .i64 x.forced], .agg #[.int .i64 y.job, .int .i64 y.win, .int .i64 y.free, .int .i64 y.forced]] W fun e w' => e = .returned (.int .i64 (cmpC x y)) ∧ Gw W w' := by
  obtain ⟨a, b, c, d⟩ := x
  obtain ⟨a', b', c', d'⟩ := y
  unfold cmpC
  simp only
  have ca := compare_c a a'
  have cb := compare_c b b'
  have co := or2_c
  obtain ⟨A, hA⟩ : ∃ A, cmpI a a' = A := ⟨_, rfl⟩
  obtain ⟨B, hB⟩ : ∃ B, cmpI b b' = B := ⟨_, rfl⟩
  rw [hA] at ca; rw [hB] at cb
  rw [hA, hB]
  have CA := Lib.hid ca; have CB := Lib.hid cb; have CO := Lib.hid co
  clear hA hB ca cb co
  go_enter Tryd.func60, Tryd.ntmps60
  go_wp2_with fail
  obtain ⟨X, hX⟩ : ∃ X, W.heap.size = X := ⟨_, rfl⟩
  obtain ⟨W2, hW2⟩ : ∃ W2, (W.alloc (.cells #[.int .i64 a, .int .i64 b, .int .i64 c, .int .i64 d] 85)).alloc (.cells #[.int .i64 a', .int .i64 b', .int .i64 c', .int .i64 d'] 85) = W2 := ⟨_, rfl⟩
  have HG : Hid (Gw W W2) := Lib.hid (by rw [← hW2]; exact ((Gw.refl W).alloc _).alloc _)
  have hx : W2.heap[X]? = some (.cells #[.int .i64 a, .int .i64 b, .int .i64 c, .int .i64 d] 85 (0, 0)) := by
    rw [← hW2, ← hX]; exact (Below.heap_alloc _ _ _ (by simp)).trans (heap_alloc_new W _)
  have hy : W2.heap[X + 1]? = some (.cells #[.int .i64 a', .int .i64 b', .int .i64 c', .int .i64 d'] 85 (0, 0)) := by
    have := heap_alloc_new (W.alloc (.cells #[.int .i64 a, .int .i64 b, .int .i64 c, .int .i64 d] 85)) (.cells #[.int .i64 a', .int .i64 b', .int .i64 c', .int .i64 d'] 85)
    rw [World.size_alloc, hW2, hX] at this; exact this
  have HC : Hid (∀ w' : World, Gw W2 w' → w'.cell? ⟨X, 0, none⟩ = some (.int .i64 a) ∧ w'.cell? ⟨X, 1, none⟩ = some (.int .i64 b) ∧ w'.cell? ⟨X + 1, 0, none⟩ = some (.int .i64 a') ∧ w'.cell? ⟨X + 1, 1, none⟩ = some (.int .i64 b') ∧ Gw W2 w') := Lib.hid fun w' h => by
    have h1 : w'.heap[X]? = _ := (h.below.block X (lt_of_row hx)).trans hx
    have h2 : w'.heap[X + 1]? = _ := (h.below.block (X + 1) (lt_of_row hy)).trans hy
    exact ⟨cell_of_heap h1 0, cell_of_heap h1 1, cell_of_heap h2 0, cell_of_heap h2 1, h⟩
  have HR : Hid (Gw W2 W2) := Lib.hid (Gw.refl W2)
  have HO : Hid ((W2.alloc (.cells #[.int .i64 A, .int .i64 B] 3)).drew.heap[W2.heap.size]? = some (.cells #[.int .i64 A, .int .i64 B] 3 (0, 0))) := Lib.hid (heap_alloc_new W2 _)
  rw [hW2, hX]
  clear hx hy hW2 hX
  go_region_held3 (fun w' => w'.cell? ⟨X, 0, none⟩ = some (.int .i64 a) ∧ w'.cell? ⟨X, 1, none⟩ = some (.int .i64 b) ∧ w'.cell? ⟨X + 1, 0, none⟩ = some (.int .i64 a') ∧ w'.cell? ⟨X + 1, 1, none⟩ = some (.int .i64 b') ∧ Gw W2 w')
    (first | (exact HC.out _ (by repeat' (first | (with_reducible exact HR.out) | (with_reducible assumption) | (with_reducible refine Gw.drewN ?_ _) | (with_reducible refine Gw.drew ?_) | (with_reducible refine Gw.alloc ?_ _)))))
    (first
      | (go_at_call 69; (with_reducible refine (CA.out _).mono ?_); rintro e w ⟨rfl, rfl⟩)
      | (go_at_call 69; (with_reducible refine (CB.out _).mono ?_); rintro e w ⟨rfl, rfl⟩)
      | (go_at_call 75; (with_reducible refine (CO.out _ A B _ HO.out).mono ?_); rintro e w ⟨rfl, rfl⟩))
  all_goals go_wp2_with fail
  all_goals (go_ret; exact ⟨rfl, HG.out.trans (by repeat' (first | (with_reducible exact HR.out) | (with_reducible assumption) | (with_reducible refine Gw.drewN ?_ _) | (with_reducible refine Gw.drew ?_) | (with_reducible refine Gw.alloc ?_ _)))⟩)

/-- The numbers of the library's sort in this program. -/
def renSC : Ren := ⟨fun | 6 => 73 | 14 => 83 | 15 => 84 | 20 => 87 | 21 => 88 | 22 => 89 | 23 => 90 | 24 => 91 | 25 => 92 | 26 => 93 | 27 => 94 | 28 => 95 | 29 => 96 | 46 => 105 | 47 => 106 | 48 => 107 | 49 => 108 | 50 => 109 | 57 => 113 | n => n, fun | 0 => 0 | 3 => 3 | 4 => 4 | 5 => 5 | 9 => 9 | 22 => 88 | 24 => 85 | 25 => 130 | 39 => 93 | 45 => 176 | 46 => 177 | 50 => 181 | 53 => 161 | 55 => 164 | 66 => 190 | 70 => 101 | 76 => 197 | 77 => 198 | n => n, fun n => n⟩
theorem laySC : SlLaysF0.n6 Tryd.prog renSC where
  mixed := by kernel_rfl
  f6 := ⟨Tryd.f73.name, by kernel_rfl, Tryd.func73.trans (congrArg some (by kernel_rfl))⟩
  f14 := ⟨Tryd.f83.name, by kernel_rfl, Tryd.func83.trans (congrArg some (by kernel_rfl))⟩
  f15 := Tryd.func84.trans (congrArg some (by kernel_rfl))
  f20 := ⟨Tryd.f87.name, by kernel_rfl, Tryd.func87.trans (congrArg some (by kernel_rfl))⟩
  f21 := ⟨Tryd.f88.name, by kernel_rfl, Tryd.func88.trans (congrArg some (by kernel_rfl))⟩
  f22 := ⟨Tryd.f89.name, by kernel_rfl, Tryd.func89.trans (congrArg some (by kernel_rfl))⟩
  f23 := ⟨Tryd.f90.name, by kernel_rfl, Tryd.func90.trans (congrArg some (by kernel_rfl))⟩
  f24 := ⟨Tryd.f91.name, by kernel_rfl, Tryd.func91.trans (congrArg some (by kernel_rfl))⟩
  f25 := ⟨Tryd.f92.name, by kernel_rfl, Tryd.func92.trans (congrArg some (by kernel_rfl))⟩
  f26 := ⟨Tryd.f93.name, by kernel_rfl, Tryd.func93.trans (congrArg some (by kernel_rfl))⟩
  f27 := ⟨Tryd.f94.name, by kernel_rfl, Tryd.func94.trans (congrArg some (by kernel_rfl))⟩
  f28 := Tryd.func95.trans (congrArg some (by kernel_rfl))
  f29 := Tryd.func96.trans (congrArg some (by kernel_rfl))
  f46 := ⟨Tryd.f105.name, by kernel_rfl, Tryd.func105.trans (congrArg some (by kernel_rfl))⟩
  f47 := Tryd.func106.trans (congrArg some (by kernel_rfl))
  f48 := Tryd.func107.trans (congrArg some (by kernel_rfl))
  f49 := ⟨Tryd.f108.name, by kernel_rfl, Tryd.func108.trans (congrArg some (by kernel_rfl))⟩
  f50 := ⟨Tryd.f109.name, by kernel_rfl, Tryd.func109.trans (congrArg some (by kernel_rfl))⟩
  f57 := ⟨Tryd.f113.name, by kernel_rfl, Tryd.func113.trans (congrArg some (by kernel_rfl))⟩
  t0 := Tryd.underlying0
  a0 := Tryd.isAgg0
  z0 := Tryd.sizeOf0
  v0 := Tryd.zeroValue0
  t3 := Tryd.underlying3
  a3 := Tryd.isAgg3
  z3 := Tryd.sizeOf3
  v3 := Tryd.zeroValue3
  t4 := Tryd.underlying4
  a4 := Tryd.isAgg4
  z4 := Tryd.sizeOf4
  v4 := Tryd.zeroValue4
  t5 := Tryd.underlying5
  a5 := Tryd.isAgg5
  z5 := Tryd.sizeOf5
  v5 := Tryd.zeroValue5
  t9 := Tryd.underlying9
  a9 := Tryd.isAgg9
  z9 := Tryd.sizeOf9
  v9 := Tryd.zeroValue9
  t22 := Tryd.underlying88
  a22 := Tryd.isAgg88
  z22 := Tryd.sizeOf88
  v22 := Tryd.zeroValue88
  t25 := Tryd.underlying130
  a25 := Tryd.isAgg130
  z25 := Tryd.sizeOf130
  v25 := Tryd.zeroValue130
  t39 := Tryd.underlying93
  a39 := Tryd.isAgg93
  z39 := Tryd.sizeOf93
  v39 := Tryd.zeroValue93
  t45 := Tryd.underlying176
  a45 := Tryd.isAgg176
  z45 := Tryd.sizeOf176
  v45 := Tryd.zeroValue176
  t46 := Tryd.underlying177
  a46 := Tryd.isAgg177
  z46 := Tryd.sizeOf177
  v46 := Tryd.zeroValue177
  t50 := Tryd.underlying181
  a50 := Tryd.isAgg181
  z50 := Tryd.sizeOf181
  v50 := Tryd.zeroValue181
  t53 := Tryd.underlying161
  a53 := Tryd.isAgg161
  z53 := Tryd.sizeOf161
  v53 := Tryd.zeroValue161
  t55 := Tryd.underlying164
  a55 := Tryd.isAgg164
  z55 := Tryd.sizeOf164
  v55 := Tryd.zeroValue164
  t66 := Tryd.underlying190
  a66 := Tryd.isAgg190
  z66 := Tryd.sizeOf190
  v66 := Tryd.zeroValue190
  t70 := Tryd.underlying101
  a70 := Tryd.isAgg101
  z70 := Tryd.sizeOf101
  v70 := Tryd.zeroValue101
  t76 := Tryd.underlying197
  a76 := Tryd.isAgg197
  z76 := Tryd.sizeOf197
  v76 := Tryd.zeroValue197
  t77 := Tryd.underlying198
  a77 := Tryd.isAgg198
  z77 := Tryd.sizeOf198
  v77 := Tryd.zeroValue198


theorem cmpLaysC (blk off size : Nat) (w : World) : CmpLays Tryd.prog 60 #[] encCt.enc 4 cmpC blk off size w := fun _ _ _ _ x y => corder_c x y _
theorem permC {L : List Ct} {d' : Array Ct} (h : PermIn 0 L.toArray.size L.toArray d') (hs : SortedIn (ltOf cmpC) 0 L.toArray.size d') : d'.toList.Perm L ∧ d'.toList.Pairwise fun a b => ¬ ltC b a := by
  obtain ⟨h1, _, h3⟩ := h
  have e1 : d'.extract 0 L.toArray.size = d' := by rw [← h1]; simp
  have e2 : L.toArray.extract 0 L.toArray.size = L.toArray := by simp
  rw [e1, e2] at h3
  refine ⟨by simpa using h3, ?_⟩
  refine List.pairwise_iff_getElem.2 fun i j hi hj hij => ?_
  have hj' : j < L.toArray.size := by rw [← h1]; simpa using hj
  have := hs i j (Nat.zero_le _) hij hj'
  rw [getElem!_pos d' j (by simpa using hj), getElem!_pos d' i (by simpa using hi)] at this
  rw [ltC_false] at this
  simpa using this
/-- slices.SortFunc by the program's order. -/
theorem sortC_own (base : Nat) (v : Value) (L : List Ct) (w : World) (h : OwnE encCt 85 w base v L) (hl : L.length ≤ 1000000) :
    Calls Tryd.prog 73 #[v, .func (.func 60) #[] #[]] w fun e w' => e = .returned (.tuple #[]) ∧ ∃ M, M.Perm L ∧ (M.Pairwise fun a b => ¬ ltC b a) ∧ OwnE encCt 85 w' base v M ∧ w.grownBy w' v.ownBlock := by
  rcases ownE_shape h with ⟨rfl, hnil⟩ | ⟨g, cap, rfl, hb, hg, hH, hown⟩
  · refine (AnyF.slices_SortFunc_none laySC none 0 _ w).mono ?_
    rintro e w' ⟨rfl, rfl⟩
    refine ⟨rfl, [], ?_, List.Pairwise.nil, ?_, World.grownBy.refl _ _⟩
    · rw [hnil]
    · rw [hnil] at h; exact h
  · have eg : ∀ args w, (callFunc 60 args).run Tryd.prog w = .ok (.enter 60 args) w := enters_of Tryd.func60 (by kernel_rfl) rfl
    have hsz : L.toArray.size = L.length := by simp
    have hcon := AnyQ.slices_SortFunc laySC 4 Tryd.isAgg85 Tryd.sizeOf85 encCt.enc encCt.len encCt.one cmpC swoC 60 #[] g 0 cap L.toArray w eg (cmpLaysC g 0 _ w) hH hg (by rw [hsz]; omega)
    rw [hsz] at hcon
    refine hcon.mono ?_
    rintro e w' ⟨rfl, d', n, os, hp, ho, rfl⟩
    rw [← hsz] at hp ho
    obtain ⟨k1, k2⟩ := permC hp ho
    obtain ⟨r1, r2⟩ := hown n os d'.toList k1.length_eq
    have ed : d'.toList.toArray = d' := by simp
    rw [ed] at r1 r2
    exact ⟨rfl, d'.toList, k1, k2, r1, r2⟩
end Go.Proofs.YtbfbhlpibclccaaDoor
