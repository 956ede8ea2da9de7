/- The order of tasks: by job, then by place; the program's own order and the library's slices.SortFunc by it, by contracts. Condition: the row is one that the calls have made. -/
import Derived.Test.YtfikkjdkgigikaaDoorTkE
import Derived.Test.YtfikkjdkgigikaaDoorOr2
import Derived.Test.YtfikkjdkgigikaaDoorErrs
import Derived.Shelf.SlSortCmp.NoneTotal
import Derived.Deep.RegionHeld3
namespace Go.Proofs.YtfikkjdkgigikaaDoor
open Go Go.RowKit Go.Sort Go.Shelf

def cmpT (x y : Tk) : Int := or2 (cmpI x.job y.job) (cmpI x.ix y.ix)
theorem cmpT_less (x y : Tk) : ltOf cmpT x y = true ↔ lessT x y := by
  unfold ltOf cmpT or2 lessT
  rw [decide_eq_true_eq]
  rcases cmpI_cases x.job y.job with ⟨h0, e0⟩ | ⟨h0, e0⟩ | ⟨h0, e0⟩ <;> rw [e0]
  · simp; omega
  · simp
    rcases cmpI_cases x.ix y.ix with ⟨h1, e1⟩ | ⟨h1, e1⟩ | ⟨h1, e1⟩ <;> rw [e1] <;> simp <;> omega
  · simp; omega
theorem ltT_false {x y : Tk} : ltOf cmpT x y = false ↔ ¬ lessT x y := by
  rw [← cmpT_less]; cases ltOf cmpT x y <;> simp
/-- It is a strict weak order. -/
theorem swoT : SWO (ltOf cmpT) where
  irrefl x := by rw [ltT_false]; unfold lessT; omega
  trans x y z h1 h2 := by rw [cmpT_less] at *; unfold lessT at *; omega
  ntrans x y z h1 h2 := by rw [ltT_false] at *; unfold lessT at *; omega

set_option maxRecDepth 100000 in
set_option maxHeartbeats 1600000 in
/-- The program's order of tasks. -/
theorem torder_c (x y : Tk) (W : World) : Calls Tryd.prog 39 #[.agg #[.int .i64 x.job, .int .i64 x.ix], .agg #[.int .i64 y.job, .int .i64 y.ix]] W fun e w' => e = .returned (.int .i64 (cmpT x y)) ∧ Gw W w' := by
  obtain ⟨a, b⟩ := x
  obtain ⟨a', b'⟩ := y
  unfold cmpT
  simp only
  have ca := compare_c a a'
  have cb := compare_c b b'
  have co := or2_c
  obtain ⟨A, hA⟩ : ∃ A, cmpI a a' = A := ⟨_, rfl⟩
  obtain ⟨B, hB⟩ : ∃ B, cmpI b b' = B := ⟨_, rfl⟩
  rw [hA] at ca; rw [hB] at cb
  rw [hA, hB]
  have CA := Lib.hid ca; have CB := Lib.hid cb; have CO := Lib.hid co
  clear hA hB ca cb co
  go_enter Tryd.func39, Tryd.ntmps39
  go_wp2_with fail
  obtain ⟨X, hX⟩ : ∃ X, W.heap.size = X := ⟨_, rfl⟩
  obtain ⟨W2, hW2⟩ : ∃ W2, (W.alloc (.cells #[.int .i64 a, .int .i64 b] 32)).alloc (.cells #[.int .i64 a', .int .i64 b'] 32) = W2 := ⟨_, rfl⟩
  have HG : Hid (Gw W W2) := Lib.hid (by rw [← hW2]; exact ((Gw.refl W).alloc _).alloc _)
  have hx : W2.heap[X]? = some (.cells #[.int .i64 a, .int .i64 b] 32 (0, 0)) := by
    rw [← hW2, ← hX]; exact (Below.heap_alloc _ _ _ (by simp)).trans (heap_alloc_new W _)
  have hy : W2.heap[X + 1]? = some (.cells #[.int .i64 a', .int .i64 b'] 32 (0, 0)) := by
    have := heap_alloc_new (W.alloc (.cells #[.int .i64 a, .int .i64 b] 32)) (.cells #[.int .i64 a', .int .i64 b'] 32)
    rw [World.size_alloc, hW2, hX] at this; exact this
  have HC : Hid (∀ w' : World, Gw W2 w' → w'.cell? ⟨X, 0, none⟩ = some (.int .i64 a) ∧ w'.cell? ⟨X, 1, none⟩ = some (.int .i64 b) ∧ w'.cell? ⟨X + 1, 0, none⟩ = some (.int .i64 a') ∧ w'.cell? ⟨X + 1, 1, none⟩ = some (.int .i64 b') ∧ Gw W2 w') := Lib.hid fun w' h => by
    have h1 : w'.heap[X]? = _ := (h.below.block X (lt_of_row hx)).trans hx
    have h2 : w'.heap[X + 1]? = _ := (h.below.block (X + 1) (lt_of_row hy)).trans hy
    exact ⟨cell_of_heap h1 0, cell_of_heap h1 1, cell_of_heap h2 0, cell_of_heap h2 1, h⟩
  have HR : Hid (Gw W2 W2) := Lib.hid (Gw.refl W2)
  have HO : Hid ((W2.alloc (.cells #[.int .i64 A, .int .i64 B] 3)).drew.heap[W2.heap.size]? = some (.cells #[.int .i64 A, .int .i64 B] 3 (0, 0))) := Lib.hid (heap_alloc_new W2 _)
  rw [hW2, hX]
  clear hx hy hW2 hX
  go_region_held3 (fun w' => w'.cell? ⟨X, 0, none⟩ = some (.int .i64 a) ∧ w'.cell? ⟨X, 1, none⟩ = some (.int .i64 b) ∧ w'.cell? ⟨X + 1, 0, none⟩ = some (.int .i64 a') ∧ w'.cell? ⟨X + 1, 1, none⟩ = some (.int .i64 b') ∧ Gw W2 w')
    (first | (exact HC.out _ (by repeat' (first | (with_reducible exact HR.out) | (with_reducible assumption) | (with_reducible refine Gw.drewN ?_ _) | (with_reducible refine Gw.drew ?_) | (with_reducible refine Gw.alloc ?_ _)))))
    (first
      | (go_at_call 49; (with_reducible refine (CA.out _).mono ?_); rintro e w ⟨rfl, rfl⟩)
      | (go_at_call 49; (with_reducible refine (CB.out _).mono ?_); rintro e w ⟨rfl, rfl⟩)
      | (go_at_call 48; (with_reducible refine (CO.out _ A B _ HO.out).mono ?_); rintro e w ⟨rfl, rfl⟩))
  all_goals go_wp2_with fail
  all_goals (go_ret; exact ⟨rfl, HG.out.trans (by repeat' (first | (with_reducible exact HR.out) | (with_reducible assumption) | (with_reducible refine Gw.drewN ?_ _) | (with_reducible refine Gw.drew ?_) | (with_reducible refine Gw.alloc ?_ _)))⟩)

/-- The numbers of the library's sort in this program. -/
def renST : Ren := ⟨fun | 6 => 38 | 14 => 46 | 15 => 47 | 20 => 55 | 21 => 56 | 22 => 57 | 23 => 58 | 24 => 59 | 25 => 60 | 26 => 61 | 27 => 62 | 28 => 63 | 29 => 64 | 46 => 68 | 47 => 69 | 48 => 70 | 49 => 71 | 50 => 72 | 57 => 82 | n => n, fun | 0 => 0 | 3 => 3 | 4 => 4 | 5 => 5 | 9 => 9 | 22 => 46 | 24 => 32 | 25 => 96 | 39 => 71 | 45 => 132 | 46 => 133 | 50 => 137 | 53 => 125 | 55 => 128 | 66 => 143 | 70 => 147 | 76 => 155 | 77 => 156 | n => n, fun n => n⟩
theorem layST : SlLaysF0.n6 Tryd.prog renST where
  mixed := by kernel_rfl
  f6 := ⟨Tryd.f38.name, by kernel_rfl, Tryd.func38.trans (congrArg some (by kernel_rfl))⟩
  f14 := ⟨Tryd.f46.name, by kernel_rfl, Tryd.func46.trans (congrArg some (by kernel_rfl))⟩
  f15 := Tryd.func47.trans (congrArg some (by kernel_rfl))
  f20 := ⟨Tryd.f55.name, by kernel_rfl, Tryd.func55.trans (congrArg some (by kernel_rfl))⟩
  f21 := ⟨Tryd.f56.name, by kernel_rfl, Tryd.func56.trans (congrArg some (by kernel_rfl))⟩
  f22 := ⟨Tryd.f57.name, by kernel_rfl, Tryd.func57.trans (congrArg some (by kernel_rfl))⟩
  f23 := ⟨Tryd.f58.name, by kernel_rfl, Tryd.func58.trans (congrArg some (by kernel_rfl))⟩
  f24 := ⟨Tryd.f59.name, by kernel_rfl, Tryd.func59.trans (congrArg some (by kernel_rfl))⟩
  f25 := ⟨Tryd.f60.name, by kernel_rfl, Tryd.func60.trans (congrArg some (by kernel_rfl))⟩
  f26 := ⟨Tryd.f61.name, by kernel_rfl, Tryd.func61.trans (congrArg some (by kernel_rfl))⟩
  f27 := ⟨Tryd.f62.name, by kernel_rfl, Tryd.func62.trans (congrArg some (by kernel_rfl))⟩
  f28 := Tryd.func63.trans (congrArg some (by kernel_rfl))
  f29 := Tryd.func64.trans (congrArg some (by kernel_rfl))
  f46 := ⟨Tryd.f68.name, by kernel_rfl, Tryd.func68.trans (congrArg some (by kernel_rfl))⟩
  f47 := Tryd.func69.trans (congrArg some (by kernel_rfl))
  f48 := Tryd.func70.trans (congrArg some (by kernel_rfl))
  f49 := ⟨Tryd.f71.name, by kernel_rfl, Tryd.func71.trans (congrArg some (by kernel_rfl))⟩
  f50 := ⟨Tryd.f72.name, by kernel_rfl, Tryd.func72.trans (congrArg some (by kernel_rfl))⟩
  f57 := ⟨Tryd.f82.name, by kernel_rfl, Tryd.func82.trans (congrArg some (by kernel_rfl))⟩
  t0 := Tryd.underlying0
  a0 := Tryd.isAgg0
  z0 := Tryd.sizeOf0
  v0 := Tryd.zeroValue0
  t3 := Tryd.underlying3
  a3 := Tryd.isAgg3
  z3 := Tryd.sizeOf3
  v3 := Tryd.zeroValue3
  t4 := Tryd.underlying4
  a4 := Tryd.isAgg4
  z4 := Tryd.sizeOf4
  v4 := Tryd.zeroValue4
  t5 := Tryd.underlying5
  a5 := Tryd.isAgg5
  z5 := Tryd.sizeOf5
  v5 := Tryd.zeroValue5
  t9 := Tryd.underlying9
  a9 := Tryd.isAgg9
  z9 := Tryd.sizeOf9
  v9 := Tryd.zeroValue9
  t22 := Tryd.underlying46
  a22 := Tryd.isAgg46
  z22 := Tryd.sizeOf46
  v22 := Tryd.zeroValue46
  t25 := Tryd.underlying96
  a25 := Tryd.isAgg96
  z25 := Tryd.sizeOf96
  v25 := Tryd.zeroValue96
  t39 := Tryd.underlying71
  a39 := Tryd.isAgg71
  z39 := Tryd.sizeOf71
  v39 := Tryd.zeroValue71
  t45 := Tryd.underlying132
  a45 := Tryd.isAgg132
  z45 := Tryd.sizeOf132
  v45 := Tryd.zeroValue132
  t46 := Tryd.underlying133
  a46 := Tryd.isAgg133
  z46 := Tryd.sizeOf133
  v46 := Tryd.zeroValue133
  t50 := Tryd.underlying137
  a50 := Tryd.isAgg137
  z50 := Tryd.sizeOf137
  v50 := Tryd.zeroValue137
  t53 := Tryd.underlying125
  a53 := Tryd.isAgg125
  z53 := Tryd.sizeOf125
  v53 := Tryd.zeroValue125
  t55 := Tryd.underlying128
  a55 := Tryd.isAgg128
  z55 := Tryd.sizeOf128
  v55 := Tryd.zeroValue128
  t66 := Tryd.underlying143
  a66 := Tryd.isAgg143
  z66 := Tryd.sizeOf143
  v66 := Tryd.zeroValue143
  t70 := Tryd.underlying147
  a70 := Tryd.isAgg147
  z70 := Tryd.sizeOf147
  v70 := Tryd.zeroValue147
  t76 := Tryd.underlying155
  a76 := Tryd.isAgg155
  z76 := Tryd.sizeOf155
  v76 := Tryd.zeroValue155
  t77 := Tryd.underlying156
  a77 := Tryd.isAgg156
  z77 := Tryd.sizeOf156
  v77 := Tryd.zeroValue156

theorem cmpLaysT (blk off size : Nat) (w : World) : CmpLays Tryd.prog 39 #[] encTk.enc 2 cmpT blk off size w := fun _ _ _ _ x y => torder_c x y _
/-- Sorted: each stands ahead of those behind. -/
theorem sort_unique : ∀ {L M : List Tk}, L.Perm M → (L.Pairwise fun a b => ¬ lessT b a) → (M.Pairwise fun a b => ¬ lessT b a) → L = M := by
  intro L M hp h1 h2
  refine List.Perm.eq_of_pairwise (le := fun a b => ¬ lessT b a) (fun a b _ _ k1 k2 => ?_) h1 h2 hp
  unfold lessT at k1 k2
  exact Tk.eq (by omega) (by omega)
theorem insT_perm (x : Tk) (L : List Tk) : (insT x L).Perm (x :: L) := by
  induction L with
  | nil => exact List.Perm.refl _
  | cons y L ih =>
    unfold insT
    split
    · exact (ih.cons y).trans (List.Perm.swap x y L)
    · exact List.Perm.refl _
theorem insT_sorted (x : Tk) {L : List Tk} (h : L.Pairwise fun a b => ¬ lessT b a) : (insT x L).Pairwise fun a b => ¬ lessT b a := by
  induction L with
  | nil => exact List.pairwise_singleton _ _
  | cons y L ih =>
    rw [List.pairwise_cons] at h
    unfold insT
    split
    · rename_i hl
      rw [List.pairwise_cons]
      refine ⟨fun z hz => ?_, ih h.2⟩
      rcases List.mem_cons.1 ((insT_perm x L).mem_iff.1 hz) with rfl | hm
      · unfold lessT at *; omega
      · exact h.1 z hm
    · rename_i hl
      rw [List.pairwise_cons]
      refine ⟨fun z hz => ?_, List.pairwise_cons.2 h⟩
      rcases List.mem_cons.1 hz with rfl | hm
      · exact hl
      · have := h.1 z hm; unfold lessT at *; omega
theorem sortT_snoc (L : List Tk) (x : Tk) : sortT (L ++ [x]) = insT x (sortT L) := by unfold sortT; rw [List.foldl_append]; rfl
theorem sortT_gen (L : List Tk) : ∀ o : List Tk, (o.Pairwise fun a b => ¬ lessT b a) → (L.foldl (fun o x => insT x o) o).Perm (o ++ L) ∧ (L.foldl (fun o x => insT x o) o).Pairwise fun a b => ¬ lessT b a := by
  induction L with
  | nil => intro o ho; simpa using ho
  | cons x L ih =>
    intro o ho
    obtain ⟨h1, h2⟩ := ih (insT x o) (insT_sorted x ho)
    refine ⟨h1.trans ?_, h2⟩
    exact ((insT_perm x o).append_right L).trans (List.perm_middle (l₁ := o) (l₂ := L) (a := x)).symm
theorem sortT_spec (L : List Tk) : (sortT L).Perm L ∧ (sortT L).Pairwise fun a b => ¬ lessT b a := by
  have := sortT_gen L [] List.Pairwise.nil
  simpa [sortT] using this
theorem sortT_len (L : List Tk) : (sortT L).length = L.length := (sortT_spec L).1.length_eq

/-- slices.SortFunc by the program's order of tasks. -/
theorem sortK_own (base : Nat) (v : Value) (L : List Tk) (w : World) (h : OwnE encTk 32 w base v L) (hl : L.length ≤ 1000000) :
    Calls Tryd.prog 38 #[v, .func (.func 39) #[] #[]] w fun e w' => e = .returned (.tuple #[]) ∧ OwnE encTk 32 w' base v (sortT L) ∧ w.grownBy w' v.ownBlock := by
  rcases ownE_shape h with ⟨rfl, hnil⟩ | ⟨g, cap, rfl, hb, hg, hH, hown⟩
  · refine (AnyF.slices_SortFunc_none layST none 0 _ w).mono ?_
    rintro e w' ⟨rfl, rfl⟩
    rw [hnil] at h ⊢
    exact ⟨rfl, h, World.grownBy.refl _ _⟩
  · have eg : ∀ args w, (callFunc 39 args).run Tryd.prog w = .ok (.enter 39 args) w := enters_of Tryd.func39 (by kernel_rfl) rfl
    have hsz : L.toArray.size = L.length := by simp
    have hcon := AnyQ.slices_SortFunc layST 2 Tryd.isAgg32 Tryd.sizeOf32 encTk.enc encTk.len encTk.one cmpT swoT 39 #[] g 0 cap L.toArray w eg (cmpLaysT g 0 _ w) hH hg (by rw [hsz]; omega)
    rw [hsz] at hcon
    refine hcon.mono ?_
    rintro e w' ⟨rfl, d', n, os, hp, ho, rfl⟩
    rw [← hsz] at hp ho
    obtain ⟨k1, k2⟩ := perm_sortedG hp ho
    obtain ⟨r1, r2⟩ := hown n os d'.toList k1.length_eq
    have ed : d'.toList.toArray = d' := by simp
    rw [ed] at r1 r2
    have es : sortT L = d'.toList := sort_unique ((sortT_spec L).1.trans k1.symm) (sortT_spec L).2 (k2.imp fun {a b} h => by rw [ltT_false] at h; exact h)
    rw [es]
    exact ⟨rfl, r1, r2⟩
end Go.Proofs.YtfikkjdkgigikaaDoor
