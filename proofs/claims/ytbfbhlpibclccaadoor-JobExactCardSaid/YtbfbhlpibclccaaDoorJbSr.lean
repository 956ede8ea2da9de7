/- The order of entries: by their jobs' numbers; the program's own order and the library's slices.SortFunc by it, by contracts. Condition: the row is one that the calls have made. -/
import Derived.Test.YtbfbhlpibclccaaDoorJbA
import Derived.Test.YtbfbhlpibclccaaDoorCmp
import Derived.Deep.DeepCutAuto
import Derived.Deep.CutBlock
import Derived.Test.YtbfbhlpibclccaaDoorRwL
import Derived.Shelf.SlSortCmp.WholeK
import Derived.Shelf.SlSortCmp.NoneTotal
namespace Go.Proofs.YtbfbhlpibclccaaDoor
open Go Go.RowKit Go.Sort Go.Shelf

def cmpE (x y : EN) : Int := cmpI x.job.id y.job.id
theorem ltE_iff (x y : EN) : ltOf cmpE x y = true ↔ x.job.id < y.job.id := by
  unfold ltOf cmpE
  rw [decide_eq_true_eq]
  rcases cmpI_cases x.job.id y.job.id with ⟨h0, e0⟩ | ⟨h0, e0⟩ | ⟨h0, e0⟩ <;> rw [e0] <;> omega
theorem ltE_false {x y : EN} : ltOf cmpE x y = false ↔ ¬ x.job.id < y.job.id := by
  rw [← ltE_iff]; cases ltOf cmpE x y <;> simp
theorem swoE : SWO (ltOf cmpE) where
  irrefl x := by rw [ltE_false]; omega
  trans x y z h1 h2 := by rw [ltE_iff] at *; omega
  ntrans x y z h1 h2 := by rw [ltE_false] at *; omega
set_option maxRecDepth 100000 in
set_option maxHeartbeats 1600000 in
/-- The program's order of entries. -/
theorem jorder_c (x y : EN) (W : World) : Calls Tryd.prog 68 #[.agg #[.int .i64 x.job.id, .int .i64 x.job.tenant, .int .i64 x.job.cell, .int .i64 x.job.band, .int .i64 x.job.tasks, .int .i64 x.job.need.a, .int .i64 x.job.need.b, .int .i64 x.job.need.c, .int .i64 x.job.need.d, .int .i64 x.job.first, .int .i64 x.job.windows, .int .i64 x.job.budget, .bool x.job.env, .int .i64 x.job.set, .slice (some ⟨x.g, 0, none⟩) x.n x.n], .agg #[.int .i64 y.job.id, .int .i64 y.job.tenant, .int .i64 y.job.cell, .int .i64 y.job.band, .int .i64 y.job.tasks, .int .i64 y.job.need.a, .int .i64 y.job.need.b, .int .i64 y.job.need.c, .int .i64 y.job.need.d, .int .i64 y.job.first, .int .i64 y.job.windows, .int .i64 y.job.budget, .bool y.job.env, .int .i64 y.job.set, .slice (some ⟨y.g, 0, none⟩) y.n y.n]] W fun e w' => e = .returned (.int .i64 (cmpE x y)) ∧ Gw W w' := by
  unfold cmpE
  obtain ⟨X, hX⟩ : ∃ X, W.heap.size = X := ⟨_, rfl⟩
  obtain ⟨W1, hW1⟩ : ∃ W1, W.alloc (.cells #[.int .i64 x.job.id, .int .i64 x.job.tenant, .int .i64 x.job.cell, .int .i64 x.job.band, .int .i64 x.job.tasks, .int .i64 x.job.need.a, .int .i64 x.job.need.b, .int .i64 x.job.need.c, .int .i64 x.job.need.d, .int .i64 x.job.first, .int .i64 x.job.windows, .int .i64 x.job.budget, .bool x.job.env, .int .i64 x.job.set, .slice (some ⟨x.g, 0, none⟩) x.n x.n] 107) = W1 := ⟨_, rfl⟩
  obtain ⟨W2, hW2⟩ : ∃ W2, W1.alloc (.cells #[.int .i64 y.job.id, .int .i64 y.job.tenant, .int .i64 y.job.cell, .int .i64 y.job.band, .int .i64 y.job.tasks, .int .i64 y.job.need.a, .int .i64 y.job.need.b, .int .i64 y.job.need.c, .int .i64 y.job.need.d, .int .i64 y.job.first, .int .i64 y.job.windows, .int .i64 y.job.budget, .bool y.job.env, .int .i64 y.job.set, .slice (some ⟨y.g, 0, none⟩) y.n y.n] 107) = W2 := ⟨_, rfl⟩
  have hx1 : W1.heap[X]? = some (.cells #[.int .i64 x.job.id, .int .i64 x.job.tenant, .int .i64 x.job.cell, .int .i64 x.job.band, .int .i64 x.job.tasks, .int .i64 x.job.need.a, .int .i64 x.job.need.b, .int .i64 x.job.need.c, .int .i64 x.job.need.d, .int .i64 x.job.first, .int .i64 x.job.windows, .int .i64 x.job.budget, .bool x.job.env, .int .i64 x.job.set, .slice (some ⟨x.g, 0, none⟩) x.n x.n] 107 (0, 0)) := by rw [← hW1, ← hX]; exact heap_alloc_new W _
  have hx : W2.heap[X]? = some (.cells #[.int .i64 x.job.id, .int .i64 x.job.tenant, .int .i64 x.job.cell, .int .i64 x.job.band, .int .i64 x.job.tasks, .int .i64 x.job.need.a, .int .i64 x.job.need.b, .int .i64 x.job.need.c, .int .i64 x.job.need.d, .int .i64 x.job.first, .int .i64 x.job.windows, .int .i64 x.job.budget, .bool x.job.env, .int .i64 x.job.set, .slice (some ⟨x.g, 0, none⟩) x.n x.n] 107 (0, 0)) := by rw [← hW2]; exact (Below.heap_alloc _ _ _ (lt_of_row hx1)).trans hx1
  have hs1 : W1.heap.size = X + 1 := by rw [← hW1, ← hX]; simp
  have hy : W2.heap[X + 1]? = some (.cells #[.int .i64 y.job.id, .int .i64 y.job.tenant, .int .i64 y.job.cell, .int .i64 y.job.band, .int .i64 y.job.tasks, .int .i64 y.job.need.a, .int .i64 y.job.need.b, .int .i64 y.job.need.c, .int .i64 y.job.need.d, .int .i64 y.job.first, .int .i64 y.job.windows, .int .i64 y.job.budget, .bool y.job.env, .int .i64 y.job.set, .slice (some ⟨y.g, 0, none⟩) y.n y.n] 107 (0, 0)) := by rw [← hW2, ← hs1]; exact heap_alloc_new W1 _
  have HG : Hid (Gw W W2) := Lib.hid (by rw [← hW2, ← hW1]; exact ((Gw.refl W).alloc _).alloc _)
  have hc0 := cell_of_heap hx 0
  have hc1 := cell_of_heap hy 0
  simp at hc0 hc1
  have HC := Lib.hid (fun W => compare_c x.job.id y.job.id W)
  obtain ⟨C, hC⟩ : ∃ C, cmpI x.job.id y.job.id = C := ⟨_, rfl⟩
  rw [hC] at HC ⊢
  have HX := Lib.hid hX; have HW1 := Lib.hid hW1; have HW2 := Lib.hid hW2; have HS1 := Lib.hid hs1
  clear hX hW1 hW2 hx1 hx hy hs1 hC
  go_enter Tryd.func68, Tryd.ntmps68
  go_upto_region 1 with fail
  rw [HW1.out, HX.out, HW2.out]
  go_wp2_with fail
  refine (HC.out _).mono ?_
  rintro e w3 ⟨rfl, rfl⟩
  go_wp2_with fail
  go_ret
  exact ⟨rfl, HG.out⟩

/-- The numbers of the library's sort in this program. -/
def renSE : Ren := ⟨fun | 6 => 79 | 14 => 86 | 15 => 84 | 20 => 97 | 21 => 98 | 22 => 99 | 23 => 100 | 24 => 101 | 25 => 102 | 26 => 103 | 27 => 104 | 28 => 95 | 29 => 96 | 46 => 110 | 47 => 106 | 48 => 107 | 49 => 111 | 50 => 112 | 57 => 114 | n => n, fun | 0 => 0 | 3 => 3 | 4 => 4 | 5 => 5 | 9 => 9 | 22 => 115 | 24 => 107 | 25 => 143 | 39 => 93 | 45 => 176 | 46 => 177 | 50 => 181 | 53 => 161 | 55 => 164 | 66 => 190 | 70 => 101 | 76 => 197 | 77 => 198 | n => n, fun n => n⟩
theorem laySE : SlLaysF0.n6 Tryd.prog renSE where
  mixed := by kernel_rfl
  f6 := ⟨Tryd.f79.name, by kernel_rfl, Tryd.func79.trans (congrArg some (by kernel_rfl))⟩
  f14 := ⟨Tryd.f86.name, by kernel_rfl, Tryd.func86.trans (congrArg some (by kernel_rfl))⟩
  f15 := Tryd.func84.trans (congrArg some (by kernel_rfl))
  f20 := ⟨Tryd.f97.name, by kernel_rfl, Tryd.func97.trans (congrArg some (by kernel_rfl))⟩
  f21 := ⟨Tryd.f98.name, by kernel_rfl, Tryd.func98.trans (congrArg some (by kernel_rfl))⟩
  f22 := ⟨Tryd.f99.name, by kernel_rfl, Tryd.func99.trans (congrArg some (by kernel_rfl))⟩
  f23 := ⟨Tryd.f100.name, by kernel_rfl, Tryd.func100.trans (congrArg some (by kernel_rfl))⟩
  f24 := ⟨Tryd.f101.name, by kernel_rfl, Tryd.func101.trans (congrArg some (by kernel_rfl))⟩
  f25 := ⟨Tryd.f102.name, by kernel_rfl, Tryd.func102.trans (congrArg some (by kernel_rfl))⟩
  f26 := ⟨Tryd.f103.name, by kernel_rfl, Tryd.func103.trans (congrArg some (by kernel_rfl))⟩
  f27 := ⟨Tryd.f104.name, by kernel_rfl, Tryd.func104.trans (congrArg some (by kernel_rfl))⟩
  f28 := Tryd.func95.trans (congrArg some (by kernel_rfl))
  f29 := Tryd.func96.trans (congrArg some (by kernel_rfl))
  f46 := ⟨Tryd.f110.name, by kernel_rfl, Tryd.func110.trans (congrArg some (by kernel_rfl))⟩
  f47 := Tryd.func106.trans (congrArg some (by kernel_rfl))
  f48 := Tryd.func107.trans (congrArg some (by kernel_rfl))
  f49 := ⟨Tryd.f111.name, by kernel_rfl, Tryd.func111.trans (congrArg some (by kernel_rfl))⟩
  f50 := ⟨Tryd.f112.name, by kernel_rfl, Tryd.func112.trans (congrArg some (by kernel_rfl))⟩
  f57 := ⟨Tryd.f114.name, by kernel_rfl, Tryd.func114.trans (congrArg some (by kernel_rfl))⟩
  t0 := Tryd.underlying0
  a0 := Tryd.isAgg0
  z0 := Tryd.sizeOf0
  v0 := Tryd.zeroValue0
  t3 := Tryd.underlying3
  a3 := Tryd.isAgg3
  z3 := Tryd.sizeOf3
  v3 := Tryd.zeroValue3
  t4 := Tryd.underlying4
  a4 := Tryd.isAgg4
  z4 := Tryd.sizeOf4
  v4 := Tryd.zeroValue4
  t5 := Tryd.underlying5
  a5 := Tryd.isAgg5
  z5 := Tryd.sizeOf5
  v5 := Tryd.zeroValue5
  t9 := Tryd.underlying9
  a9 := Tryd.isAgg9
  z9 := Tryd.sizeOf9
  v9 := Tryd.zeroValue9
  t22 := Tryd.underlying115
  a22 := Tryd.isAgg115
  z22 := Tryd.sizeOf115
  v22 := Tryd.zeroValue115
  t25 := Tryd.underlying143
  a25 := Tryd.isAgg143
  z25 := Tryd.sizeOf143
  v25 := Tryd.zeroValue143
  t39 := Tryd.underlying93
  a39 := Tryd.isAgg93
  z39 := Tryd.sizeOf93
  v39 := Tryd.zeroValue93
  t45 := Tryd.underlying176
  a45 := Tryd.isAgg176
  z45 := Tryd.sizeOf176
  v45 := Tryd.zeroValue176
  t46 := Tryd.underlying177
  a46 := Tryd.isAgg177
  z46 := Tryd.sizeOf177
  v46 := Tryd.zeroValue177
  t50 := Tryd.underlying181
  a50 := Tryd.isAgg181
  z50 := Tryd.sizeOf181
  v50 := Tryd.zeroValue181
  t53 := Tryd.underlying161
  a53 := Tryd.isAgg161
  z53 := Tryd.sizeOf161
  v53 := Tryd.zeroValue161
  t55 := Tryd.underlying164
  a55 := Tryd.isAgg164
  z55 := Tryd.sizeOf164
  v55 := Tryd.zeroValue164
  t66 := Tryd.underlying190
  a66 := Tryd.isAgg190
  z66 := Tryd.sizeOf190
  v66 := Tryd.zeroValue190
  t70 := Tryd.underlying101
  a70 := Tryd.isAgg101
  z70 := Tryd.sizeOf101
  v70 := Tryd.zeroValue101
  t76 := Tryd.underlying197
  a76 := Tryd.isAgg197
  z76 := Tryd.sizeOf197
  v76 := Tryd.zeroValue197
  t77 := Tryd.underlying198
  a77 := Tryd.isAgg198
  z77 := Tryd.sizeOf198
  v77 := Tryd.zeroValue198


theorem cmpLaysE (blk off size : Nat) (w : World) : CmpLays Tryd.prog 68 #[] encEn.enc 15 cmpE blk off size w := fun _ _ _ _ x y => jorder_c x y _
theorem permE {L : List EN} {d' : Array EN} (h : PermIn 0 L.toArray.size L.toArray d') (hs : SortedIn (ltOf cmpE) 0 L.toArray.size d') : d'.toList.Perm L ∧ d'.toList.Pairwise fun a b => ¬ b.job.id < a.job.id := by
  obtain ⟨h1, _, h3⟩ := h
  have e1 : d'.extract 0 L.toArray.size = d' := by rw [← h1]; simp
  have e2 : L.toArray.extract 0 L.toArray.size = L.toArray := by simp
  rw [e1, e2] at h3
  refine ⟨by simpa using h3, ?_⟩
  refine List.pairwise_iff_getElem.2 fun i j hi hj hij => ?_
  have hj' : j < L.toArray.size := by rw [← h1]; simpa using hj
  have := hs i j (Nat.zero_le _) hij hj'
  rw [getElem!_pos d' j (by simpa using hj), getElem!_pos d' i (by simpa using hi)] at this
  rw [ltE_false] at this
  simpa using this
/-- slices.SortFunc by the program's order. -/
theorem sortE_own (base : Nat) (v : Value) (L : List EN) (w : World) (h : OwnE encEn 107 w base v L) (hl : L.length ≤ 1000000) :
    Calls Tryd.prog 79 #[v, .func (.func 68) #[] #[]] w fun e w' => e = .returned (.tuple #[]) ∧ ∃ M, M.Perm L ∧ (M.Pairwise fun a b => ¬ b.job.id < a.job.id) ∧ OwnE encEn 107 w' base v M ∧ w.grownBy w' v.ownBlock := by
  rcases ownE_shape h with ⟨rfl, hnil⟩ | ⟨g, cap, rfl, hb, hg, hH, hown⟩
  · refine (AnyF.slices_SortFunc_none laySE none 0 _ w).mono ?_
    rintro e w' ⟨rfl, rfl⟩
    refine ⟨rfl, [], ?_, List.Pairwise.nil, ?_, World.grownBy.refl _ _⟩
    · rw [hnil]
    · rw [hnil] at h; exact h
  · have eg : ∀ args w, (callFunc 68 args).run Tryd.prog w = .ok (.enter 68 args) w := enters_of Tryd.func68 (by kernel_rfl) rfl
    have hsz : L.toArray.size = L.length := by simp
    have hcon := AnyQ.slices_SortFunc laySE 15 Tryd.isAgg107 Tryd.sizeOf107 encEn.enc encEn.len encEn.one cmpE swoE 68 #[] g 0 cap L.toArray w eg (cmpLaysE g 0 _ w) hH hg (by rw [hsz]; omega)
    rw [hsz] at hcon
    refine hcon.mono ?_
    rintro e w' ⟨rfl, d', n, os, hp, ho, rfl⟩
    rw [← hsz] at hp ho
    obtain ⟨k1, k2⟩ := permE hp ho
    obtain ⟨r1, r2⟩ := hown n os d'.toList k1.length_eq
    have ed : d'.toList.toArray = d' := by simp
    rw [ed] at r1 r2
    exact ⟨rfl, d'.toList, k1, k2, r1, r2⟩
end Go.Proofs.YtbfbhlpibclccaaDoor
