/- The order of entries: by their jobs' numbers; the program's own order and the library's slices.SortFunc by it, by contracts. Condition: the row is one that the calls have made. -/
import Derived.Test.YtbdnfppbiplpmaaDoorJbA
import Derived.Test.YtbdnfppbiplpmaaDoorCmp
import Derived.Deep.DeepCutAuto
import Derived.Deep.CutBlock
import Derived.Test.YtbdnfppbiplpmaaDoorRwS
import Derived.Shelf.SlSortCmp.WholeK
import Derived.Shelf.SlSortCmp.NoneTotal
namespace Go.Proofs.YtbdnfppbiplpmaaDoor
open Go Go.RowKit Go.Sort Go.Shelf

def cmpE (x y : EN) : Int := cmpI x.job.id y.job.id
theorem ltE_iff (x y : EN) : ltOf cmpE x y = true ↔ x.job.id < y.job.id := by
  unfold ltOf cmpE
  rw [decide_eq_true_eq]
  rcases cmpI_cases x.job.id y.job.id with ⟨h0, e0⟩ | ⟨h0, e0⟩ | ⟨h0, e0⟩ <;> rw [e0] <;> omega
theorem ltE_false {x y : EN} : ltOf cmpE x y = false ↔ ¬ x.job.id < y.job.id := by
  rw [← ltE_iff]; cases ltOf cmpE x y <;> simp
theorem swoE : SWO (ltOf cmpE) where
  irrefl x := by rw [ltE_false]; omega
  trans x y z h1 h2 := by rw [ltE_iff] at *; omega
  ntrans x y z h1 h2 := by rw [ltE_false] at *; omega
set_option maxRecDepth 100000 in
set_option maxHeartbeats 1600000 in
/-- The program's order of entries. -/
theorem jorder_c (x y : EN) (W : World) : Calls Tryd.prog 91 #[.agg #[.int .i64 x.job.id, .int .i64 x.job.tenant, .int .i64 x.job.cell, .int .i64 x.job.band, .int .i64 x.job.tasks, .int .i64 x.job.need.a, .int .i64 x.job.need.b, .int .i64 x.job.need.c, .int .i64 x.job.need.d, .int .i64 x.job.first, .int .i64 x.job.windows, .int .i64 x.job.budget, .bool x.job.env, .int .i64 x.job.set, .slice (some ⟨x.g, 0, none⟩) x.n x.n], .agg #[.int .i64 y.job.id, .int .i64 y.job.tenant, .int .i64 y.job.cell, .int .i64 y.job.band, .int .i64 y.job.tasks, .int .i64 y.job.need.a, .int .i64 y.job.need.b, .int .i64 y.job.need.c, .int .i64 y.job.need.d, .int .i64 y.job.first, .int .i64 y.job.windows, .int .i64 y.job.budget, .bool y.job.env, .int .i64 y.job.set, .slice (some ⟨y.g, 0, none⟩) y.n y.n]] W fun e w' => e = .returned (.int .i64 (cmpE x y)) ∧ Gw W w' := by
  unfold cmpE
  obtain ⟨X, hX⟩ : ∃ X, W.heap.size = X := ⟨_, rfl⟩
  obtain ⟨W1, hW1⟩ : ∃ W1, W.alloc (.cells #[.int .i64 x.job.id, .int .i64 x.job.tenant, .int .i64 x.job.cell, .int .i64 x.job.band, .int .i64 x.job.tasks, .int .i64 x.job.need.a, .int .i64 x.job.need.b, .int .i64 x.job.need.c, .int .i64 x.job.need.d, .int .i64 x.job.first, .int .i64 x.job.windows, .int .i64 x.job.budget, .bool x.job.env, .int .i64 x.job.set, .slice (some ⟨x.g, 0, none⟩) x.n x.n] 140) = W1 := ⟨_, rfl⟩
  obtain ⟨W2, hW2⟩ : ∃ W2, W1.alloc (.cells #[.int .i64 y.job.id, .int .i64 y.job.tenant, .int .i64 y.job.cell, .int .i64 y.job.band, .int .i64 y.job.tasks, .int .i64 y.job.need.a, .int .i64 y.job.need.b, .int .i64 y.job.need.c, .int .i64 y.job.need.d, .int .i64 y.job.first, .int .i64 y.job.windows, .int .i64 y.job.budget, .bool y.job.env, .int .i64 y.job.set, .slice (some ⟨y.g, 0, none⟩) y.n y.n] 140) = W2 := ⟨_, rfl⟩
  have hx1 : W1.heap[X]? = some (.cells #[.int .i64 x.job.id, .int .i64 x.job.tenant, .int .i64 x.job.cell, .int .i64 x.job.band, .int .i64 x.job.tasks, .int .i64 x.job.need.a, .int .i64 x.job.need.b, .int .i64 x.job.need.c, .int .i64 x.job.need.d, .int .i64 x.job.first, .int .i64 x.job.windows, .int .i64 x.job.budget, .bool x.job.env, .int .i64 x.job.set, .slice (some ⟨x.g, 0, none⟩) x.n x.n] 140 (0, 0)) := by rw [← hW1, ← hX]; exact heap_alloc_new W _
  have hx : W2.heap[X]? = some (.cells #[.int .i64 x.job.id, .int .i64 x.job.tenant, .int .i64 x.job.cell, .int .i64 x.job.band, .int .i64 x.job.tasks, .int .i64 x.job.need.a, .int .i64 x.job.need.b, .int .i64 x.job.need.c, .int .i64 x.job.need.d, .int .i64 x.job.first, .int .i64 x.job.windows, .int .i64 x.job.budget, .bool x.job.env, .int .i64 x.job.set, .slice (some ⟨x.g, 0, none⟩) x.n x.n] 140 (0, 0)) := by rw [← hW2]; exact (Below.heap_alloc _ _ _ (lt_of_row hx1)).trans hx1
  have hs1 : W1.heap.size = X + 1 := by rw [← hW1, ← hX]; simp
  have hy : W2.heap[X + 1]? = some (.cells #[.int .i64 y.job.id, .int .i64 y.job.tenant, .int .i64 y.job.cell, .int .i64 y.job.band, .int .i64 y.job.tasks, .int .i64 y.job.need.a, .int .i64 y.job.need.b, .int .i64 y.job.need.c, .int .i64 y.job.need.d, .int .i64 y.job.first, .int .i64 y.job.windows, .int .i64 y.job.budget, .bool y.job.env, .int .i64 y.job.set, .slice (some ⟨y.g, 0, none⟩) y.n y.n] 140 (0, 0)) := by rw [← hW2, ← hs1]; exact heap_alloc_new W1 _
  have HG : Hid (Gw W W2) := Lib.hid (by rw [← hW2, ← hW1]; exact ((Gw.refl W).alloc _).alloc _)
  have hc0 := cell_of_heap hx 0
  have hc1 := cell_of_heap hy 0
  simp at hc0 hc1
  have HC := Lib.hid (fun W => compare_c x.job.id y.job.id W)
  obtain ⟨C, hC⟩ : ∃ C, cmpI x.job.id y.job.id = C := ⟨_, rfl⟩
  rw [hC] at HC ⊢
  have HX := Lib.hid hX; have HW1 := Lib.hid hW1; have HW2 := Lib.hid hW2; have HS1 := Lib.hid hs1
  clear hX hW1 hW2 hx1 hx hy hs1 hC
  go_enter Tryd.func91, Tryd.ntmps91
  go_upto_region 1 with fail
  rw [HW1.out, HX.out, HW2.out]
  go_wp2_with fail
  refine (HC.out _).mono ?_
  rintro e w3 ⟨rfl, rfl⟩
  go_wp2_with fail
  go_ret
  exact ⟨rfl, HG.out⟩

/-- The numbers of the library's sort in this program. -/
def renSE : Ren := ⟨fun | 6 => 108 | 14 => 125 | 15 => 83 | 20 => 130 | 21 => 131 | 22 => 132 | 23 => 133 | 24 => 134 | 25 => 135 | 26 => 136 | 27 => 137 | 28 => 102 | 29 => 103 | 46 => 139 | 47 => 111 | 48 => 112 | 49 => 140 | 50 => 141 | 57 => 142 | n => n, fun | 0 => 0 | 3 => 3 | 4 => 4 | 5 => 5 | 9 => 9 | 22 => 147 | 24 => 140 | 25 => 165 | 39 => 103 | 45 => 184 | 46 => 185 | 50 => 189 | 53 => 177 | 55 => 180 | 66 => 198 | 70 => 135 | 76 => 211 | 77 => 212 | n => n, fun n => n⟩
theorem laySE : SlLaysF0.n6 Tryd.prog renSE where
  mixed := by kernel_rfl
  f6 := ⟨Tryd.f108.name, by kernel_rfl, Tryd.func108.trans (congrArg some (by kernel_rfl))⟩
  f14 := ⟨Tryd.f125.name, by kernel_rfl, Tryd.func125.trans (congrArg some (by kernel_rfl))⟩
  f15 := Tryd.func83.trans (congrArg some (by kernel_rfl))
  f20 := ⟨Tryd.f130.name, by kernel_rfl, Tryd.func130.trans (congrArg some (by kernel_rfl))⟩
  f21 := ⟨Tryd.f131.name, by kernel_rfl, Tryd.func131.trans (congrArg some (by kernel_rfl))⟩
  f22 := ⟨Tryd.f132.name, by kernel_rfl, Tryd.func132.trans (congrArg some (by kernel_rfl))⟩
  f23 := ⟨Tryd.f133.name, by kernel_rfl, Tryd.func133.trans (congrArg some (by kernel_rfl))⟩
  f24 := ⟨Tryd.f134.name, by kernel_rfl, Tryd.func134.trans (congrArg some (by kernel_rfl))⟩
  f25 := ⟨Tryd.f135.name, by kernel_rfl, Tryd.func135.trans (congrArg some (by kernel_rfl))⟩
  f26 := ⟨Tryd.f136.name, by kernel_rfl, Tryd.func136.trans (congrArg some (by kernel_rfl))⟩
  f27 := ⟨Tryd.f137.name, by kernel_rfl, Tryd.func137.trans (congrArg some (by kernel_rfl))⟩
  f28 := Tryd.func102.trans (congrArg some (by kernel_rfl))
  f29 := Tryd.func103.trans (congrArg some (by kernel_rfl))
  f46 := ⟨Tryd.f139.name, by kernel_rfl, Tryd.func139.trans (congrArg some (by kernel_rfl))⟩
  f47 := Tryd.func111.trans (congrArg some (by kernel_rfl))
  f48 := Tryd.func112.trans (congrArg some (by kernel_rfl))
  f49 := ⟨Tryd.f140.name, by kernel_rfl, Tryd.func140.trans (congrArg some (by kernel_rfl))⟩
  f50 := ⟨Tryd.f141.name, by kernel_rfl, Tryd.func141.trans (congrArg some (by kernel_rfl))⟩
  f57 := ⟨Tryd.f142.name, by kernel_rfl, Tryd.func142.trans (congrArg some (by kernel_rfl))⟩
  t0 := Tryd.underlying0
  a0 := Tryd.isAgg0
  z0 := Tryd.sizeOf0
  v0 := Tryd.zeroValue0
  t3 := Tryd.underlying3
  a3 := Tryd.isAgg3
  z3 := Tryd.sizeOf3
  v3 := Tryd.zeroValue3
  t4 := Tryd.underlying4
  a4 := Tryd.isAgg4
  z4 := Tryd.sizeOf4
  v4 := Tryd.zeroValue4
  t5 := Tryd.underlying5
  a5 := Tryd.isAgg5
  z5 := Tryd.sizeOf5
  v5 := Tryd.zeroValue5
  t9 := Tryd.underlying9
  a9 := Tryd.isAgg9
  z9 := Tryd.sizeOf9
  v9 := Tryd.zeroValue9
  t22 := Tryd.underlying147
  a22 := Tryd.isAgg147
  z22 := Tryd.sizeOf147
  v22 := Tryd.zeroValue147
  t25 := Tryd.underlying165
  a25 := Tryd.isAgg165
  z25 := Tryd.sizeOf165
  v25 := Tryd.zeroValue165
  t39 := Tryd.underlying103
  a39 := Tryd.isAgg103
  z39 := Tryd.sizeOf103
  v39 := Tryd.zeroValue103
  t45 := Tryd.underlying184
  a45 := Tryd.isAgg184
  z45 := Tryd.sizeOf184
  v45 := Tryd.zeroValue184
  t46 := Tryd.underlying185
  a46 := Tryd.isAgg185
  z46 := Tryd.sizeOf185
  v46 := Tryd.zeroValue185
  t50 := Tryd.underlying189
  a50 := Tryd.isAgg189
  z50 := Tryd.sizeOf189
  v50 := Tryd.zeroValue189
  t53 := Tryd.underlying177
  a53 := Tryd.isAgg177
  z53 := Tryd.sizeOf177
  v53 := Tryd.zeroValue177
  t55 := Tryd.underlying180
  a55 := Tryd.isAgg180
  z55 := Tryd.sizeOf180
  v55 := Tryd.zeroValue180
  t66 := Tryd.underlying198
  a66 := Tryd.isAgg198
  z66 := Tryd.sizeOf198
  v66 := Tryd.zeroValue198
  t70 := Tryd.underlying135
  a70 := Tryd.isAgg135
  z70 := Tryd.sizeOf135
  v70 := Tryd.zeroValue135
  t76 := Tryd.underlying211
  a76 := Tryd.isAgg211
  z76 := Tryd.sizeOf211
  v76 := Tryd.zeroValue211
  t77 := Tryd.underlying212
  a77 := Tryd.isAgg212
  z77 := Tryd.sizeOf212
  v77 := Tryd.zeroValue212


theorem cmpLaysE (blk off size : Nat) (w : World) : CmpLays Tryd.prog 91 #[] encEn.enc 15 cmpE blk off size w := fun _ _ _ _ x y => jorder_c x y _
theorem permE {L : List EN} {d' : Array EN} (h : PermIn 0 L.toArray.size L.toArray d') (hs : SortedIn (ltOf cmpE) 0 L.toArray.size d') : d'.toList.Perm L ∧ d'.toList.Pairwise fun a b => ¬ b.job.id < a.job.id := by
  obtain ⟨h1, _, h3⟩ := h
  have e1 : d'.extract 0 L.toArray.size = d' := by rw [← h1]; simp
  have e2 : L.toArray.extract 0 L.toArray.size = L.toArray := by simp
  rw [e1, e2] at h3
  refine ⟨by simpa using h3, ?_⟩
  refine List.pairwise_iff_getElem.2 fun i j hi hj hij => ?_
  have hj' : j < L.toArray.size := by rw [← h1]; simpa using hj
  have := hs i j (Nat.zero_le _) hij hj'
  rw [getElem!_pos d' j (by simpa using hj), getElem!_pos d' i (by simpa using hi)] at this
  rw [ltE_false] at this
  simpa using this
/-- slices.SortFunc by the program's order. -/
theorem sortE_own (base : Nat) (v : Value) (L : List EN) (w : World) (h : OwnE encEn 140 w base v L) (hl : L.length ≤ 1000000) :
    Calls Tryd.prog 108 #[v, .func (.func 91) #[] #[]] w fun e w' => e = .returned (.tuple #[]) ∧ ∃ M, M.Perm L ∧ (M.Pairwise fun a b => ¬ b.job.id < a.job.id) ∧ OwnE encEn 140 w' base v M ∧ w.grownBy w' v.ownBlock := by
  rcases ownE_shape h with ⟨rfl, hnil⟩ | ⟨g, cap, rfl, hb, hg, hH, hown⟩
  · refine (AnyF.slices_SortFunc_none laySE none 0 _ w).mono ?_
    rintro e w' ⟨rfl, rfl⟩
    refine ⟨rfl, [], ?_, List.Pairwise.nil, ?_, World.grownBy.refl _ _⟩
    · rw [hnil]
    · rw [hnil] at h; exact h
  · have eg : ∀ args w, (callFunc 91 args).run Tryd.prog w = .ok (.enter 91 args) w := enters_of Tryd.func91 (by kernel_rfl) rfl
    have hsz : L.toArray.size = L.length := by simp
    have hcon := AnyQ.slices_SortFunc laySE 15 Tryd.isAgg140 Tryd.sizeOf140 encEn.enc encEn.len encEn.one cmpE swoE 91 #[] g 0 cap L.toArray w eg (cmpLaysE g 0 _ w) hH hg (by rw [hsz]; omega)
    rw [hsz] at hcon
    refine hcon.mono ?_
    rintro e w' ⟨rfl, d', n, os, hp, ho, rfl⟩
    rw [← hsz] at hp ho
    obtain ⟨k1, k2⟩ := permE hp ho
    obtain ⟨r1, r2⟩ := hown n os d'.toList k1.length_eq
    have ed : d'.toList.toArray = d' := by simp
    rw [ed] at r1 r2
    exact ⟨rfl, d'.toList, k1, k2, r1, r2⟩
end Go.Proofs.YtbdnfppbiplpmaaDoor
