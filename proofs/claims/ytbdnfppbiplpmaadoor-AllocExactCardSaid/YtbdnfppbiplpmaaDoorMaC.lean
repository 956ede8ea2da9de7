/- The order of tasks: by job, then by place; the program's own order and the library's slices.SortFunc by it, by contracts. Condition: the row is one that the calls have made. -/
import Derived.Test.YtbdnfppbiplpmaaDoorTkE
import Derived.Test.YtbdnfppbiplpmaaDoorOr2
import Derived.Test.YtbdnfppbiplpmaaDoorErrs
import Derived.Shelf.SlSortCmp.NoneTotal
import Derived.Deep.RegionHeld3
import Derived.Test.YtbdnfppbiplpmaaDoorMaA
import Derived.Test.YtbdnfppbiplpmaaDoorRwL
import Derived.RangeFuncNested
import Derived.Test.YtbdnfppbiplpmaaDoorMaB
namespace Go.Proofs.YtbdnfppbiplpmaaDoor
open Go Go.RowKit Go.Sort Go.Shelf

def cmpT (x y : Tk) : Int := or2 (cmpI x.job y.job) (cmpI x.ix y.ix)
theorem cmpT_less (x y : Tk) : ltOf cmpT x y = true ↔ lessT x y := by
  unfold ltOf cmpT or2 lessT
  rw [decide_eq_true_eq]
  rcases cmpI_cases x.job y.job with ⟨h0, e0⟩ | ⟨h0, e0⟩ | ⟨h0, e0⟩ <;> rw [e0]
  · simp; omega
  · simp
    rcases cmpI_cases x.ix y.ix with ⟨h1, e1⟩ | ⟨h1, e1⟩ | ⟨h1, e1⟩ <;> rw [e1] <;> simp <;> omega
  · simp; omega
theorem ltT_false {x y : Tk} : ltOf cmpT x y = false ↔ ¬ lessT x y := by
  rw [← cmpT_less]; cases ltOf cmpT x y <;> simp
/-- It is a strict weak order. -/
theorem swoT : SWO (ltOf cmpT) where
  irrefl x := by rw [ltT_false]; unfold lessT; omega
  trans x y z h1 h2 := by rw [cmpT_less] at *; unfold lessT at *; omega
  ntrans x y z h1 h2 := by rw [ltT_false] at *; unfold lessT at *; omega

set_option maxRecDepth 100000 in
set_option maxHeartbeats 1600000 in
/-- The program's order of tasks. -/
theorem torder_c (x y : Tk) (W : World) : Calls Tryd.prog 64 #[.agg #[.int .i64 x.job, .int .i64 x.ix], .agg #[.int .i64 y.job, .int .i64 y.ix]] W fun e w' => e = .returned (.int .i64 (cmpT x y)) ∧ Gw W w' := by
  obtain ⟨a, b⟩ := x
  obtain ⟨a', b'⟩ := y
  unfold cmpT
  simp only
  have ca := compare_c a a'
  have cb := compare_c b b'
  have co := or2_c
  obtain ⟨A, hA⟩ : ∃ A, cmpI a a' = A := ⟨_, rfl⟩
  obtain ⟨B, hB⟩ : ∃ B, cmpI b b' = B := ⟨_, rfl⟩
  rw [hA] at ca; rw [hB] at cb
  rw [hA, hB]
  have CA := Lib.hid ca; have CB := Lib.hid cb; have CO := Lib.hid co
  clear hA hB ca cb co
  go_enter Tryd.func64, Tryd.ntmps64
  go_wp2_with fail
  obtain ⟨X, hX⟩ : ∃ X, W.heap.size = X := ⟨_, rfl⟩
  obtain ⟨W2, hW2⟩ : ∃ W2, (W.alloc (.cells #[.int .i64 a, .int .i64 b] 32)).alloc (.cells #[.int .i64 a', .int .i64 b'] 32) = W2 := ⟨_, rfl⟩
  have HG : Hid (Gw W W2) := Lib.hid (by rw [← hW2]; exact ((Gw.refl W).alloc _).alloc _)
  have hx : W2.heap[X]? = some (.cells #[.int .i64 a, .int .i64 b] 32 (0, 0)) := by
    rw [← hW2, ← hX]; exact (Below.heap_alloc _ _ _ (by simp)).trans (heap_alloc_new W _)
  have hy : W2.heap[X + 1]? = some (.cells #[.int .i64 a', .int .i64 b'] 32 (0, 0)) := by
    have := heap_alloc_new (W.alloc (.cells #[.int .i64 a, .int .i64 b] 32)) (.cells #[.int .i64 a', .int .i64 b'] 32)
    rw [World.size_alloc, hW2, hX] at this; exact this
  have HC : Hid (∀ w' : World, Gw W2 w' → w'.cell? ⟨X, 0, none⟩ = some (.int .i64 a) ∧ w'.cell? ⟨X, 1, none⟩ = some (.int .i64 b) ∧ w'.cell? ⟨X + 1, 0, none⟩ = some (.int .i64 a') ∧ w'.cell? ⟨X + 1, 1, none⟩ = some (.int .i64 b') ∧ Gw W2 w') := Lib.hid fun w' h => by
    have h1 : w'.heap[X]? = _ := (h.below.block X (lt_of_row hx)).trans hx
    have h2 : w'.heap[X + 1]? = _ := (h.below.block (X + 1) (lt_of_row hy)).trans hy
    exact ⟨cell_of_heap h1 0, cell_of_heap h1 1, cell_of_heap h2 0, cell_of_heap h2 1, h⟩
  have HR : Hid (Gw W2 W2) := Lib.hid (Gw.refl W2)
  have HO : Hid ((W2.alloc (.cells #[.int .i64 A, .int .i64 B] 3)).drew.heap[W2.heap.size]? = some (.cells #[.int .i64 A, .int .i64 B] 3 (0, 0))) := Lib.hid (heap_alloc_new W2 _)
  rw [hW2, hX]
  clear hx hy hW2 hX
  go_region_held3 (fun w' => w'.cell? ⟨X, 0, none⟩ = some (.int .i64 a) ∧ w'.cell? ⟨X, 1, none⟩ = some (.int .i64 b) ∧ w'.cell? ⟨X + 1, 0, none⟩ = some (.int .i64 a') ∧ w'.cell? ⟨X + 1, 1, none⟩ = some (.int .i64 b') ∧ Gw W2 w')
    (first | (exact HC.out _ (by repeat' (first | (with_reducible exact HR.out) | (with_reducible assumption) | (with_reducible refine Gw.drewN ?_ _) | (with_reducible refine Gw.drew ?_) | (with_reducible refine Gw.alloc ?_ _)))))
    (first
      | (go_at_call 85; (with_reducible refine (CA.out _).mono ?_); rintro e w ⟨rfl, rfl⟩)
      | (go_at_call 85; (with_reducible refine (CB.out _).mono ?_); rintro e w ⟨rfl, rfl⟩)
      | (go_at_call 84; (with_reducible refine (CO.out _ A B _ HO.out).mono ?_); rintro e w ⟨rfl, rfl⟩))
  all_goals go_wp2_with fail
  all_goals (go_ret; exact ⟨rfl, HG.out.trans (by repeat' (first | (with_reducible exact HR.out) | (with_reducible assumption) | (with_reducible refine Gw.drewN ?_ _) | (with_reducible refine Gw.drew ?_) | (with_reducible refine Gw.alloc ?_ _)))⟩)

/-- The numbers of the library's sort in this program. -/
def renST : Ren := ⟨fun | 6 => 63 | 14 => 82 | 15 => 83 | 20 => 94 | 21 => 95 | 22 => 96 | 23 => 97 | 24 => 98 | 25 => 99 | 26 => 100 | 27 => 101 | 28 => 102 | 29 => 103 | 46 => 110 | 47 => 111 | 48 => 112 | 49 => 113 | 50 => 114 | 57 => 126 | n => n, fun | 0 => 0 | 3 => 3 | 4 => 4 | 5 => 5 | 9 => 9 | 22 => 46 | 24 => 32 | 25 => 125 | 39 => 103 | 45 => 184 | 46 => 185 | 50 => 189 | 53 => 177 | 55 => 180 | 66 => 198 | 70 => 135 | 76 => 211 | 77 => 212 | n => n, fun n => n⟩
theorem layST : SlLaysF0.n6 Tryd.prog renST where
  mixed := by kernel_rfl
  f6 := ⟨Tryd.f63.name, by kernel_rfl, Tryd.func63.trans (congrArg some (by kernel_rfl))⟩
  f14 := ⟨Tryd.f82.name, by kernel_rfl, Tryd.func82.trans (congrArg some (by kernel_rfl))⟩
  f15 := Tryd.func83.trans (congrArg some (by kernel_rfl))
  f20 := ⟨Tryd.f94.name, by kernel_rfl, Tryd.func94.trans (congrArg some (by kernel_rfl))⟩
  f21 := ⟨Tryd.f95.name, by kernel_rfl, Tryd.func95.trans (congrArg some (by kernel_rfl))⟩
  f22 := ⟨Tryd.f96.name, by kernel_rfl, Tryd.func96.trans (congrArg some (by kernel_rfl))⟩
  f23 := ⟨Tryd.f97.name, by kernel_rfl, Tryd.func97.trans (congrArg some (by kernel_rfl))⟩
  f24 := ⟨Tryd.f98.name, by kernel_rfl, Tryd.func98.trans (congrArg some (by kernel_rfl))⟩
  f25 := ⟨Tryd.f99.name, by kernel_rfl, Tryd.func99.trans (congrArg some (by kernel_rfl))⟩
  f26 := ⟨Tryd.f100.name, by kernel_rfl, Tryd.func100.trans (congrArg some (by kernel_rfl))⟩
  f27 := ⟨Tryd.f101.name, by kernel_rfl, Tryd.func101.trans (congrArg some (by kernel_rfl))⟩
  f28 := Tryd.func102.trans (congrArg some (by kernel_rfl))
  f29 := Tryd.func103.trans (congrArg some (by kernel_rfl))
  f46 := ⟨Tryd.f110.name, by kernel_rfl, Tryd.func110.trans (congrArg some (by kernel_rfl))⟩
  f47 := Tryd.func111.trans (congrArg some (by kernel_rfl))
  f48 := Tryd.func112.trans (congrArg some (by kernel_rfl))
  f49 := ⟨Tryd.f113.name, by kernel_rfl, Tryd.func113.trans (congrArg some (by kernel_rfl))⟩
  f50 := ⟨Tryd.f114.name, by kernel_rfl, Tryd.func114.trans (congrArg some (by kernel_rfl))⟩
  f57 := ⟨Tryd.f126.name, by kernel_rfl, Tryd.func126.trans (congrArg some (by kernel_rfl))⟩
  t0 := Tryd.underlying0
  a0 := Tryd.isAgg0
  z0 := Tryd.sizeOf0
  v0 := Tryd.zeroValue0
  t3 := Tryd.underlying3
  a3 := Tryd.isAgg3
  z3 := Tryd.sizeOf3
  v3 := Tryd.zeroValue3
  t4 := Tryd.underlying4
  a4 := Tryd.isAgg4
  z4 := Tryd.sizeOf4
  v4 := Tryd.zeroValue4
  t5 := Tryd.underlying5
  a5 := Tryd.isAgg5
  z5 := Tryd.sizeOf5
  v5 := Tryd.zeroValue5
  t9 := Tryd.underlying9
  a9 := Tryd.isAgg9
  z9 := Tryd.sizeOf9
  v9 := Tryd.zeroValue9
  t22 := Tryd.underlying46
  a22 := Tryd.isAgg46
  z22 := Tryd.sizeOf46
  v22 := Tryd.zeroValue46
  t25 := Tryd.underlying125
  a25 := Tryd.isAgg125
  z25 := Tryd.sizeOf125
  v25 := Tryd.zeroValue125
  t39 := Tryd.underlying103
  a39 := Tryd.isAgg103
  z39 := Tryd.sizeOf103
  v39 := Tryd.zeroValue103
  t45 := Tryd.underlying184
  a45 := Tryd.isAgg184
  z45 := Tryd.sizeOf184
  v45 := Tryd.zeroValue184
  t46 := Tryd.underlying185
  a46 := Tryd.isAgg185
  z46 := Tryd.sizeOf185
  v46 := Tryd.zeroValue185
  t50 := Tryd.underlying189
  a50 := Tryd.isAgg189
  z50 := Tryd.sizeOf189
  v50 := Tryd.zeroValue189
  t53 := Tryd.underlying177
  a53 := Tryd.isAgg177
  z53 := Tryd.sizeOf177
  v53 := Tryd.zeroValue177
  t55 := Tryd.underlying180
  a55 := Tryd.isAgg180
  z55 := Tryd.sizeOf180
  v55 := Tryd.zeroValue180
  t66 := Tryd.underlying198
  a66 := Tryd.isAgg198
  z66 := Tryd.sizeOf198
  v66 := Tryd.zeroValue198
  t70 := Tryd.underlying135
  a70 := Tryd.isAgg135
  z70 := Tryd.sizeOf135
  v70 := Tryd.zeroValue135
  t76 := Tryd.underlying211
  a76 := Tryd.isAgg211
  z76 := Tryd.sizeOf211
  v76 := Tryd.zeroValue211
  t77 := Tryd.underlying212
  a77 := Tryd.isAgg212
  z77 := Tryd.sizeOf212
  v77 := Tryd.zeroValue212

theorem cmpLaysT (blk off size : Nat) (w : World) : CmpLays Tryd.prog 64 #[] encTk.enc 2 cmpT blk off size w := fun _ _ _ _ x y => torder_c x y _
/-- Sorted: each stands ahead of those behind. -/
theorem sort_unique : ∀ {L M : List Tk}, L.Perm M → (L.Pairwise fun a b => ¬ lessT b a) → (M.Pairwise fun a b => ¬ lessT b a) → L = M := by
  intro L M hp h1 h2
  refine List.Perm.eq_of_pairwise (le := fun a b => ¬ lessT b a) (fun a b _ _ k1 k2 => ?_) h1 h2 hp
  unfold lessT at k1 k2
  exact Tk.eq (by omega) (by omega)
theorem insT_perm (x : Tk) (L : List Tk) : (insT x L).Perm (x :: L) := by
  induction L with
  | nil => exact List.Perm.refl _
  | cons y L ih =>
    unfold insT
    split
    · exact (ih.cons y).trans (List.Perm.swap x y L)
    · exact List.Perm.refl _
theorem insT_sorted (x : Tk) {L : List Tk} (h : L.Pairwise fun a b => ¬ lessT b a) : (insT x L).Pairwise fun a b => ¬ lessT b a := by
  induction L with
  | nil => exact List.pairwise_singleton _ _
  | cons y L ih =>
    rw [List.pairwise_cons] at h
    unfold insT
    split
    · rename_i hl
      rw [List.pairwise_cons]
      refine ⟨fun z hz => ?_, ih h.2⟩
      rcases List.mem_cons.1 ((insT_perm x L).mem_iff.1 hz) with rfl | hm
      · unfold lessT at *; omega
      · exact h.1 z hm
    · rename_i hl
      rw [List.pairwise_cons]
      refine ⟨fun z hz => ?_, List.pairwise_cons.2 h⟩
      rcases List.mem_cons.1 hz with rfl | hm
      · exact hl
      · have := h.1 z hm; unfold lessT at *; omega
theorem sortT_snoc (L : List Tk) (x : Tk) : sortT (L ++ [x]) = insT x (sortT L) := by unfold sortT; rw [List.foldl_append]; rfl
theorem sortT_gen (L : List Tk) : ∀ o : List Tk, (o.Pairwise fun a b => ¬ lessT b a) → (L.foldl (fun o x => insT x o) o).Perm (o ++ L) ∧ (L.foldl (fun o x => insT x o) o).Pairwise fun a b => ¬ lessT b a := by
  induction L with
  | nil => intro o ho; simpa using ho
  | cons x L ih =>
    intro o ho
    obtain ⟨h1, h2⟩ := ih (insT x o) (insT_sorted x ho)
    refine ⟨h1.trans ?_, h2⟩
    exact ((insT_perm x o).append_right L).trans (List.perm_middle (l₁ := o) (l₂ := L) (a := x)).symm
theorem sortT_spec (L : List Tk) : (sortT L).Perm L ∧ (sortT L).Pairwise fun a b => ¬ lessT b a := by
  have := sortT_gen L [] List.Pairwise.nil
  simpa [sortT] using this
theorem sortT_len (L : List Tk) : (sortT L).length = L.length := (sortT_spec L).1.length_eq

/-- slices.SortFunc by the program's order of tasks. -/
theorem sortK_own (base : Nat) (v : Value) (L : List Tk) (w : World) (h : OwnE encTk 32 w base v L) (hl : L.length ≤ 1000000) :
    Calls Tryd.prog 63 #[v, .func (.func 64) #[] #[]] w fun e w' => e = .returned (.tuple #[]) ∧ OwnE encTk 32 w' base v (sortT L) ∧ w.grownBy w' v.ownBlock := by
  rcases ownE_shape h with ⟨rfl, hnil⟩ | ⟨g, cap, rfl, hb, hg, hH, hown⟩
  · refine (AnyF.slices_SortFunc_none layST none 0 _ w).mono ?_
    rintro e w' ⟨rfl, rfl⟩
    rw [hnil] at h ⊢
    exact ⟨rfl, h, World.grownBy.refl _ _⟩
  · have eg : ∀ args w, (callFunc 64 args).run Tryd.prog w = .ok (.enter 64 args) w := enters_of Tryd.func64 (by kernel_rfl) rfl
    have hsz : L.toArray.size = L.length := by simp
    have hcon := AnyQ.slices_SortFunc layST 2 Tryd.isAgg32 Tryd.sizeOf32 encTk.enc encTk.len encTk.one cmpT swoT 64 #[] g 0 cap L.toArray w eg (cmpLaysT g 0 _ w) hH hg (by rw [hsz]; omega)
    rw [hsz] at hcon
    refine hcon.mono ?_
    rintro e w' ⟨rfl, d', n, os, hp, ho, rfl⟩
    rw [← hsz] at hp ho
    obtain ⟨k1, k2⟩ := perm_sortedG hp ho
    obtain ⟨r1, r2⟩ := hown n os d'.toList k1.length_eq
    have ed : d'.toList.toArray = d' := by simp
    rw [ed] at r1 r2
    have es : sortT L = d'.toList := sort_unique ((sortT_spec L).1.trans k1.symm) (sortT_spec L).2 (k2.imp fun {a b} h => by rw [ltT_false] at h; exact h)
    rw [es]
    exact ⟨rfl, r1, r2⟩
end Go.Proofs.YtbdnfppbiplpmaaDoor

/- The program's book of envelopes by contracts: Inside. Condition: the book lies in memory as its maps have it. -/
namespace Go.Proofs.YtbdnfppbiplpmaaDoor
open Go Go.RowKit Go.Maps Go.Sort

/-- Is a seat in that envelope? -/
def inS (id pos : Int) (x : SeatR) : Bool := decide (x.set = id) && decide (x.pos = pos)
theorem infoTk_parts : ∃ i, Tryd.prog.info? 32 = some i ∧ i.zero = some (.agg #[.int .i64 0, .int .i64 0]) ∧ i.size = 2 ∧ i.bytes = 16 := by
  obtain ⟨i, h1, h2⟩ := Option.map_eq_some_iff.1 Tryd.infoTk
  simp only [Prod.mk.injEq] at h2
  exact ⟨i, h1, h2.1, h2.2.1, h2.2.2⟩
section
variable {w : World} {P : Nat → Prop} {q b1 b2 : Nat} {T1 : List (Int × Option (Nat × Nat))} {T2 : List (Tk × SeatR)} {bl : Int → Nat} {G : AG}
theorem AlP.inside_perm (h : AlP w P q b1 b2 T1 T2 bl G) {id pos : Int} {ss : List Tk} (hp : ss.Perm (T2.map (·.1))) : sortT (ss.filter fun t => inS id pos ((look T2 t).getD seat0)) = insideA G id pos := by
  unfold insideA
  refine sort_unique ?_ (sortT_spec _).2 (sortT_spec _).2
  refine (sortT_spec _).1.trans (List.Perm.trans ?_ (sortT_spec _).1.symm)
  refine ((hp.trans h.keys2).filter _).trans ?_
  rw [List.filter_map]
  refine List.Perm.of_eq (congrArg _ (List.filter_congr fun x hx => ?_))
  simp only [Function.comp]
  rw [h.seats, (tk_iff h.good).2 ⟨hx, rfl⟩]
  rfl
set_option maxRecDepth 100000 in
set_option maxHeartbeats 3200000 in
/-- Book.Inside. -/
theorem ainside_c (h : AlP w P q b1 b2 T1 T2 bl G) (id pos : Int) (hlen : G.tasks.length ≤ 100000) :
    Calls Tryd.prog 26 #[.pointer (some ⟨q, 0, none⟩), .int .i64 id, .int .i64 pos] w fun e w' => ∃ v, e = .returned v ∧ OwnE encTk 32 w' w.heap.size v (insideA G id pos) ∧ Below w.heap.size w w' := by
  have HK := Lib.hid (aknown_c q b1 b2 w h.box)
  have hf1 := fieldB1
  have H2 : Hid (∀ w', Below w.heap.size w w' → SeatsAt w' b2 T2) := Lib.hid fun w' hb => (h.on hb).m2
  have HPE : Hid (∀ ss : List Tk, ss.Perm (T2.map (·.1)) → sortT (ss.filter fun t => inS id pos ((look T2 t).getD seat0)) = insideA G id pos) := Lib.hid fun ss hp => h.inside_perm hp
  have HAP := Lib.hid h.m2.apart
  have HKE := Lib.hid h.m2.keys
  have HLN : Hid (T2.length ≤ 100000) := Lib.hid (by rw [h.len2]; exact hlen)
  obtain ⟨I, hI⟩ : ∃ I, insideA G id pos = I := ⟨_, rfl⟩
  rw [hI] at HPE ⊢
  obtain ⟨i0, hi0, hz0, hz1, hz2⟩ := infoTk_parts
  have HI0 := Lib.hid hi0; have HZ0 := Lib.hid hz0; have HZ1 := Lib.hid hz1; have HZ2 := Lib.hid hz2
  clear h hI hi0 hz0 hz1 hz2 hlen
  go_enter Tryd.func26, Tryd.ntmps26
  go_wp2_with fail
  refine HK.out.mono ?_
  rintro e w1 ⟨rfl, bb1⟩
  have hm1 := H2.out w1 bb1
  have HB1 := Lib.hid bb1
  clear bb1 HK
  go_wp2_with (at_range; refine wpList_rangeG _ kitT rfl _ 105 rfl 116 Tryd.underlying105 encSeat b2 T2 rfl hm1 ?_; intro w0 left hrg0 hl0 hg0 hs0)
  obtain ⟨r, hr⟩ : ∃ r, w1.heap.size = r := ⟨_, rfl⟩
  have HB0 : Hid (Below w.heap.size w w0) := Lib.hid (HB1.out.grown hg0 HB1.out.size (fun k e => by cases e))
  have HRW : Hid (w.heap.size ≤ r) := Lib.hid (by rw [← hr]; exact HB1.out.size)
  rw [hr] at hrg0 ⊢
  clear hr hm1 hg0 hs0
  go_frame
  go_loopw [7] (fun V wr => ∃ (left : Tk → Bool) (cnt : Nat) (ss : List Tk), RangeG Tryd.prog 32 klT okT encSeat wr b2 r T2 left cnt ∧ ss.length + cnt ≤ T2.length ∧ CameG T2 okT left ss ∧ (∀ x ∈ ss, okT x) ∧ OwnE encTk 32 wr w.heap.size V (ss.filter fun t => inS id pos ((look T2 t).getD seat0)) ∧ Below w.heap.size w wr)
    (fun _ wr => wr.rangeLeft b2 r)
  case atStart => exact ⟨_, _, [], hrg0, by simp, CameG.start T2 hl0, fun x hx => (by cases hx), OwnE.nil _ _ _, HB0.out⟩
  case round =>
    obtain ⟨left, cnt, ss, hrg, hcs, hC, hok, hown, hb⟩ := hrel
    clear hrg0 hl0 HB0
    obtain ⟨A, c, hv⟩ := hown.form
    subst hv
    obtain ⟨N, hN⟩ : ∃ N, (ss.filter fun t => inS id pos ((look T2 t).getD seat0)).length = N := ⟨_, rfl⟩
    have HNB : Hid (N ≤ 100000) := Lib.hid (by have := List.length_filter_le (fun t => inS id pos ((look T2 t).getD seat0)) ss; have := HLN.out; omega)
    have HC := Lib.hid hC; have HO := Lib.hid hok; have HOW := Lib.hid hown; have HB := Lib.hid hb; have HCS := Lib.hid hcs; have HRG := Lib.hid hrg; have HN := Lib.hid hN
    rw [hN]
    clear hC hok hown hb hcs hN
    go_wp2_with (at_next; refine wpList_nextG _ kitT rfl _ rfl encSeat b2 r T2 _ _ rfl hrg ?_ ?_)
    · intro hc0 hl0
      have hp : ss.Perm (T2.map (·.1)) := HC.out.perm HAP.out HKE.out HO.out hl0
      have he := HPE.out ss hp
      have hso := sortK_own w.heap.size (.slice A N c) _ wr (by have := HOW.out; rwa [HN.out] at this) (by rw [HN.out]; have := HNB.out; omega)
      rw [he] at hso
      have HSO := Lib.hid hso
      clear hrg hl0 hp he hso HC HPE
      go_wp2_with fail
      refine HSO.out.mono ?_
      rintro e w5 ⟨rfl, hr5, hg5⟩
      have hbl : ∀ k, (Value.slice A N c).ownBlock = some k → w.heap.size ≤ k := fun k hk => (HOW.out.lt k (by rw [HN.out]; exact hk)).1
      have HR5 := Lib.hid hr5
      have HB5 : Hid (Below w.heap.size w w5) := Lib.hid (HB.out.grown hg5 HB.out.size hbl)
      clear hr5 hg5 hbl
      go_wp2_with fail
      go_ret
      exact ⟨_, rfl, HR5.out, HB5.out⟩
    · intro y v w3 cnt3 hyo hlk hat hrg3 hlt hg3 hs3 hen
      have hw3 : Below w.heap.size w w3 := HB.out.grown hg3 HB.out.size (fun k e => by cases e; exact HRW.out)
      have hrb : ∀ k, (Value.slice A N c).ownBlock = some k → w3.heap[k]? = wr.heap[k]? := fun k hk => by
        have hk' := HOW.out.lt k (by rw [HN.out]; exact hk)
        refine hg3.block k hk'.2 fun e => ?_
        obtain rfl : k = r := Option.some.inj e
        obtain ⟨D, lf, hrr, _⟩ := HRG.out
        obtain ⟨o, ho, hwk⟩ := hrr.iter_walk
        have hO := HOW.out
        rw [HN.out] at hO
        rcases hO.2 with ⟨hv, _⟩ | ⟨g, cap, cur, hv, _, hh, _⟩
        · rw [hv] at hk; simp [Value.ownBlock] at hk
        · rw [hv] at hk; simp [Value.ownBlock] at hk; subst hk
          rw [ho] at hh; obtain rfl := Option.some.inj hh
          simp [Obj.isWalk] at hwk
      have hO3 : OwnE encTk 32 w3 w.heap.size (.slice A N c) (ss.filter fun t => inS id pos ((look T2 t).getD seat0)) := by
        have hO := HOW.out
        rw [HN.out] at hO
        exact hO.same hrb
      have HO3 := Lib.hid hO3
      have HW3 := Lib.hid hw3
      have HR3 := Lib.hid hrg3
      have HSM : Hid (w3.rangeLeft b2 r < wr.rangeLeft b2 r) := Lib.hid (by rw [hrg3.left_eq, hrg.left_eq]; exact hlt)
      have HC3 : Hid (CameG T2 okT (fun z => left z && !decide (z = y)) (ss ++ [y])) := Lib.hid (HC.out.step hyo hlk hat)
      have HOK3 : Hid (∀ x ∈ ss ++ [y], okT x) := Lib.hid fun z hz => by
        rcases List.mem_append.1 hz with k | k
        · exact HO.out z k
        · rw [List.mem_singleton.1 k]; exact hyo
      have HLT : Hid (ss.length + 1 + cnt3 ≤ T2.length) := Lib.hid (by have := HCS.out; omega)
      have HFI : Hid ((ss ++ [y]).filter (fun t => inS id pos ((look T2 t).getD seat0)) = (ss.filter fun t => inS id pos ((look T2 t).getD seat0)) ++ (if inS id pos v = true then [y] else [])) := Lib.hid (by
        rw [List.filter_append, List.filter_cons, hat]
        rfl)
      unfold tv encSeat at hen ⊢
      clear hrg hrg3 hlk hat hlt hg3 hs3 hrb hO3 hw3 hyo HC HO HOW HB HRG HCS HPE
      by_cases h1 : v.set = id
      · have e1 : (v.set == id) = true := by simpa using h1
        by_cases h2 : v.pos = pos
        · have e2 : (v.pos == pos) = true := by simpa using h2
          have hi : inS id pos v = true := by simp [inS, h1, h2]
          rw [hi, if_pos rfl] at HFI
          clear h1 h2 hi
          obtain ⟨W5, hW5⟩ : ∃ W5, ((w3.alloc (.cells #[.int .i64 y.job, .int .i64 y.ix] 32)).alloc (.cells #[.int .i64 v.set, .int .i64 v.pos, .int .i64 v.need.a, .int .i64 v.need.b, .int .i64 v.need.c, .int .i64 v.need.d] 116)).alloc (.cells #[.int .i64 y.job, .int .i64 y.ix] 32) = W5 := ⟨_, rfl⟩
          have hb5 : Below w3.heap.size w3 W5 := by rw [← hW5]; exact (((Below.refl _ _).alloc (Nat.le_refl _) _).alloc (by simp) _).alloc (by simp; omega) _
          have A1 : Hid (OwnE encTk 32 W5 w.heap.size (.slice A N c) (ss.filter fun t => inS id pos ((look T2 t).getD seat0))) := Lib.hid (HO3.out.on hb5)
          have A2 : Hid (LiesE encTk W5 (.slice (some ⟨w3.heap.size + 1 + 1, 0, none⟩) 1 1) [y]) := Lib.hid (by
            have := lies_lit encTk (w := W5) (g := w3.heap.size + 1 + 1) (t := 32) [y] (by rw [← hW5]; have := heap_alloc_new ((w3.alloc (.cells #[.int .i64 y.job, .int .i64 y.ix] 32)).alloc (.cells #[.int .i64 v.set, .int .i64 v.pos, .int .i64 v.need.a, .int .i64 v.need.b, .int .i64 v.need.c, .int .i64 v.need.d] 116)) (.cells #[.int .i64 y.job, .int .i64 y.ix] 32); simp only [World.size_alloc] at this; exact this)
            exact this)
          have A3 : Hid ((ss.filter fun t => inS id pos ((look T2 t).getD seat0)).length + [y].length ≤ maxLen) := Lib.hid (by rw [HN.out]; have := HNB.out; simp only [List.length_singleton, maxLen]; omega)
          have A4 : Hid (((ss.filter fun t => inS id pos ((look T2 t).getD seat0)).length + [y].length) * 16 ≤ 140737488355328) := Lib.hid (by rw [HN.out]; have := HNB.out; simp only [List.length_singleton]; omega)
          have A5 : Hid (w.heap.size ≤ W5.heap.size) := Lib.hid (Nat.le_trans HW3.out.size hb5.size)
          have HB5 := Lib.hid hb5
          have HW5 := Lib.hid hW5
          clear hW5 hb5
          obtain ⟨ii, h0⟩ : ∃ ii, Tryd.prog.info? 32 = some ii := ⟨_, HI0.out⟩
          obtain rfl := Option.some.inj (h0.symm.trans HI0.out)
          have z0 := HZ0.out; have z1 := HZ1.out; have z2 := HZ2.out
          go_wp2_with (at_builtin; rw [HW5.out]; refine wpList_append_E (E := encTk) rfl _ _ 46 rfl ii _ 16 Tryd.underlying46 h0 z0 z1 z2 rfl (by decide) rfl A1.out rfl A2.out A3.out A4.out A5.out ?_; intro v' w' hv hgr hown)
          have HV := Lib.hid hv
          have hbk : ∀ k, (Value.slice A N c).ownBlock = some k → w.heap.size ≤ k ∧ k < w3.heap.size := fun k hk => HO3.out.lt k hk
          have HBW : Hid (Below w.heap.size w w') := Lib.hid ((HW3.out.trans (HB5.out.mono HW3.out.size)).grown hgr (Nat.le_trans HW3.out.size HB5.out.size) (fun k hk => (hbk k hk).1))
          have HRR : Hid (RangeG Tryd.prog 32 klT okT encSeat w' b2 r T2 (fun z => left z && !decide (z = y)) cnt3) := Lib.hid (by
            refine RangeG.kept (row := (Value.slice A N c).ownBlock) (w := W5) ?_ hgr ?_ ?_
            · rw [← HW5.out]; exact ((HR3.out.alloc _).alloc _).alloc _
            · intro e
              obtain ⟨D, ⟨es, cc, hm, _⟩, _⟩ := HR3.out.map
              have hO := HO3.out
              rcases hO.2 with ⟨hv, _⟩ | ⟨g, cap, cur, hv, _, hh, _⟩
              · rw [hv] at e; simp [Value.ownBlock] at e
              · rw [hv] at e; simp [Value.ownBlock] at e; subst e; rw [hm] at hh; cases hh
            · intro e
              obtain ⟨D, lf, hrr, _⟩ := HR3.out
              obtain ⟨o, ho, hwk⟩ := hrr.iter_walk
              have hO := HO3.out
              rcases hO.2 with ⟨hv, _⟩ | ⟨g, cap, cur, hv, _, hh, _⟩
              · rw [hv] at e; simp [Value.ownBlock] at e
              · rw [hv] at e; simp [Value.ownBlock] at e; subst e; rw [ho] at hh; obtain rfl := Option.some.inj hh; simp [Obj.isWalk] at hwk)
          clear hv hgr hown hbk
          go_wp2_with fail
          go_roundw
          case rel => exact ⟨_, cnt3, ss ++ [y], HRR.out, by have := HLT.out; simp; omega, HC3.out, HOK3.out, by rw [HFI.out]; exact HV.out, HBW.out⟩
          case measure =>
            have := HSM.out
            rw [HR3.out.left_eq] at this
            rw [HRR.out.left_eq]; exact this
        · have e2 : (v.pos == pos) = false := by simpa using h2
          have hi : inS id pos v = false := by simp [inS, h2]
          rw [hi] at HFI
          clear h1 h2 hi
          rw [if_neg (by decide), List.append_nil] at HFI
          go_wp2_with fail
          go_roundw
          case rel => exact ⟨_, cnt3, ss ++ [y], (HR3.out.alloc _).alloc _, by have := HLT.out; simp; omega, HC3.out, HOK3.out, by rw [HFI.out]; exact (HO3.out.on ((Below.refl _ _).alloc (Nat.le_refl _) _)).on ((Below.refl _ _).alloc (Nat.le_refl _) _), (HW3.out.alloc HW3.out.size _).alloc (Nat.le_trans HW3.out.size (by simp)) _⟩
          case measure =>
            have := HSM.out
            rw [HR3.out.left_eq] at this
            rw [((HR3.out.alloc _).alloc _).left_eq]; exact this
      · have e1 : (v.set == id) = false := by simpa using h1
        have hi : inS id pos v = false := by simp [inS, h1]
        rw [hi] at HFI
        clear h1 hi
        rw [if_neg (by decide), List.append_nil] at HFI
        go_wp2_with fail
        go_roundw
        case rel => exact ⟨_, cnt3, ss ++ [y], (HR3.out.alloc _).alloc _, by have := HLT.out; simp; omega, HC3.out, HOK3.out, by rw [HFI.out]; exact (HO3.out.on ((Below.refl _ _).alloc (Nat.le_refl _) _)).on ((Below.refl _ _).alloc (Nat.le_refl _) _), (HW3.out.alloc HW3.out.size _).alloc (Nat.le_trans HW3.out.size (by simp)) _⟩
        case measure =>
          have := HSM.out
          rw [HR3.out.left_eq] at this
          rw [((HR3.out.alloc _).alloc _).left_eq]; exact this
end
end Go.Proofs.YtbdnfppbiplpmaaDoor

/- The program's book of envelopes by contracts: Fall. Conditions: the book lies in memory as its maps have it; the sentinels lie where the program's text lays them. -/
namespace Go.Proofs.YtbdnfppbiplpmaaDoor
open Go Go.RowKit Go.Maps Go.Sort

/-- What is left behind the first j tasks of a list. -/
def goneG (G : AG) (L : List Tk) (j : Nat) : AG := ⟨G.sets, G.tasks.filter fun x => !decide (x.tk ∈ L.take j)⟩
theorem gone_zero (G : AG) (L : List Tk) : goneG G L 0 = G := by
  unfold goneG
  have : (G.tasks.filter fun x => !decide (x.tk ∈ L.take 0)) = G.tasks := List.filter_eq_self.2 fun x _ => by simp
  rw [this]
theorem gone_succ {G : AG} {L : List Tk} {j : Nat} {t : Tk} (h : L[j]? = some t) : takeG (goneG G L j) t = goneG G L (j + 1) := by
  unfold goneG takeG
  congr 1
  simp only [List.filter_filter]
  refine List.filter_congr fun x _ => ?_
  rw [List.take_add_one, h, Option.toList_some]
  by_cases h1 : x.tk ∈ L.take j <;> by_cases h2 : x.tk = t <;> simp [h1, h2]
theorem gone_good {G : AG} (h : GA G) (L : List Tk) (j : Nat) : GA (goneG G L j) := h.less _
theorem gone_tk {G : AG} (h : GA G) {L : List Tk} (hn : L.Nodup) (hm : ∀ t ∈ L, ∃ x ∈ G.tasks, x.tk = t) {j : Nat} {t : Tk} (hj : L[j]? = some t) : ∃ x, tkA (goneG G L j) t = some x := by
  obtain ⟨x, hx, hxt⟩ := hm t (List.mem_of_getElem? hj)
  refine ⟨x, (tk_iff (gone_good h L j)).2 ⟨List.mem_filter.2 ⟨hx, ?_⟩, hxt⟩⟩
  rw [hxt]
  have hni : t ∉ L.take j := fun hm => by
    obtain ⟨i, hi, he⟩ := List.mem_take_iff_getElem.1 hm
    obtain ⟨hjl, hje⟩ := List.getElem?_eq_some_iff.1 hj
    exact List.pairwise_iff_getElem.1 hn i j (by omega) hjl (by omega) (he.trans hje.symm)
  simpa using hni
theorem inside_mem {G : AG} {id pos : Int} {t : Tk} : t ∈ insideA G id pos ↔ ∃ x ∈ G.tasks, inE id pos x = true ∧ x.tk = t := by
  unfold insideA
  rw [(sortT_spec _).1.mem_iff, List.mem_map]
  constructor
  · rintro ⟨x, hx, rfl⟩
    obtain ⟨h1, h2⟩ := List.mem_filter.1 hx
    exact ⟨x, h1, h2, rfl⟩
  · rintro ⟨x, h1, h2, rfl⟩
    exact ⟨x, List.mem_filter.2 ⟨h1, h2⟩, rfl⟩
theorem inside_nodup {G : AG} (h : GA G) (id pos : Int) : (insideA G id pos).Nodup := by
  unfold insideA
  rw [(sortT_spec _).1.nodup_iff]
  exact List.pairwise_map.2 (h.tks.filter _)
theorem gone_all {G : AG} (h : GA G) (id pos : Int) : goneG G (insideA G id pos) (insideA G id pos).length = ⟨G.sets, G.tasks.filter fun x => !inE id pos x⟩ := by
  unfold goneG
  congr 1
  refine List.filter_congr fun x hx => ?_
  rw [List.take_length]
  cases hi : inE id pos x with
  | true =>
    have : x.tk ∈ insideA G id pos := inside_mem.2 ⟨x, hx, hi, rfl⟩
    simp [this]
  | false =>
    have : x.tk ∉ insideA G id pos := fun hm => by
      obtain ⟨y, hy, hyi, hyt⟩ := inside_mem.1 hm
      have e1 : tkA G x.tk = some x := (tk_iff h).2 ⟨hx, rfl⟩
      have e2 : tkA G x.tk = some y := (tk_iff h).2 ⟨hy, hyt⟩
      rw [e1] at e2
      obtain rfl := Option.some.inj e2
      rw [hi] at hyi; cases hyi
    simp [this]
theorem turnG_gone (G : AG) (id pos : Int) (b : Bool) : turnG ⟨G.sets, G.tasks.filter fun x => !inE id pos x⟩ id pos b = turnG G id pos b := by
  unfold turnG
  congr 1
  simp only [List.filter_filter, Bool.and_self]
section
variable {w : World} {P : Nat → Prop} {q b1 b2 : Nat} {T1 : List (Int × Option (Nat × Nat))} {T2 : List (Tk × SeatR)} {bl : Int → Nat} {G : AG}
set_option maxRecDepth 100000 in
set_option maxHeartbeats 3200000 in
/-- Book.Fall: there is no such envelope that is up. -/
theorem afall_no (s : Nat → Addr) (h : AlP w P q b1 b2 T1 T2 bl G) (hs : SentP s P w) {id pos : Int} (hid : i64 id) (hn : 0 < (turnA G id pos false).2) :
    Calls Tryd.prog 16 #[.pointer (some ⟨q, 0, none⟩), .int .i64 id, .int .i64 pos] w fun e w' => e = .returned (.tuple #[.slice none 0 0, errV s (turnA G id pos false).2]) ∧ Below w.heap.size w w' := by
  rcases Nat.eq_zero_or_pos (findE G id pos) with h0 | h0
  · obtain ⟨sA, k, e, rfl, hk⟩ := findE_some h0
    rw [turnA_is e hk] at hn ⊢
    cases hu : sA.up (k : Int) with
    | true => rw [hu, if_neg (by decide)] at hn; simp at hn
    | false =>
      rw [if_pos rfl, errA s 13 (by omega)]
      have HF := Lib.hid (afind_ok h e hk hid)
      obtain ⟨c0, _, _, _, _, cf⟩ := h.cells e hk
      rw [hu] at c0
      have e12 := hs.here.cell 12 (by omega)
      simp only [gnum, List.getD_cons_zero, List.getD_cons_succ] at e12
      clear h hs e hk h0 hn
      go_enter Tryd.func16, Tryd.ntmps16
      go_wp2_with fail
      refine HF.out.mono ?_
      rintro e w1 ⟨rfl, rfl⟩
      go_wp2_with fail
      go_quiet (fail)
      go_wp2_with fail
      exact bodyPost_ret (v := .tuple #[.slice none 0 0, .iface 225 (.pointer (some (s 12)))]) (by simp [results, Tryd.results16, go_sem]) rfl ⟨rfl, by (repeat' (first | (with_reducible exact Below.refl _ _) | (with_reducible refine below_drewN ?_ _) | (with_reducible refine Below.drew ?_) | (with_reducible refine Below.alloc ?_ ?_ _) | (with_reducible refine Below.setCell ?_ ?_ _) | (with_reducible refine Below.trans ?_ (Below.mono (by with_reducible assumption) ?_)) | omega | (simp only [World.size_alloc, World.size_setCell, World.size_drew, Go.Proofs.YtbdnfppbiplpmaaDoor.World.size_drewN] at *; omega) | (with_reducible refine Below.size (B := 0) ?_)))⟩
  · have HF := Lib.hid (afind_no s h hs.here h0 hid)
    rw [turnA_no h0]
    obtain ⟨E, hE⟩ : ∃ E, findE G id pos = E + 1 := ⟨findE G id pos - 1, by omega⟩
    rw [hE] at HF ⊢
    rw [errA s (E + 1) (by omega)] at HF ⊢
    obtain ⟨x, hx⟩ : ∃ x, x = s (E + 1 - 1) := ⟨_, rfl⟩
    rw [← hx] at HF ⊢
    clear h hs h0 hE hn hx
    go_enter Tryd.func16, Tryd.ntmps16
    go_wp2_with fail
    refine HF.out.mono ?_
    rintro e w1 ⟨rfl, hb⟩
    go_wp2_with fail
    exact bodyPost_ret (v := .tuple #[.slice none 0 0, .iface 225 (.pointer (some x))]) (by simp [results, Tryd.results16, go_sem]) rfl ⟨rfl, hb⟩
set_option maxRecDepth 100000 in
set_option maxHeartbeats 3200000 in
/-- Book.Fall: the envelope is emptied, and down. -/
theorem afall_ok (s : Nat → Addr) (h : AlP w P q b1 b2 T1 T2 bl G) (hs : SentP s P w) {id : Int} (hid : i64 id) {sA : SetA} {k : Nat} (e : setA G id = some sA) (hk : k < sA.n) (hu : sA.up (k : Int) = true) (hlen : G.tasks.length ≤ 100000) (hok : ∀ x ∈ G.tasks, okT x.tk) :
    Calls Tryd.prog 16 #[.pointer (some ⟨q, 0, none⟩), .int .i64 id, .int .i64 (k : Int)] w fun e w' => ∃ v, e = .returned (.tuple #[v, .nilIface]) ∧ AlW w' P q (turnG G id (k : Int) false) ∧ ChP P w w' ∧ OwnE encTk 32 w' w.heap.size v (insideA G id (k : Int)) := by
  have HF := Lib.hid (afind_ok h e hk hid)
  obtain ⟨c0, _, _, _, _, cf⟩ := h.cells e hk
  rw [hu] at c0
  have HI := Lib.hid (ainside_c h id (k : Int) hlen)
  obtain ⟨L, hL⟩ : ∃ L, insideA G id (k : Int) = L := ⟨_, rfl⟩
  have HG := Lib.hid h.good
  have HH := Lib.hid h
  have hnd : L.Nodup := by rw [← hL]; exact inside_nodup h.good _ _
  have hmm : ∀ t ∈ L, ∃ x ∈ G.tasks, x.tk = t := fun t ht => by
    rw [← hL] at ht
    obtain ⟨x, h1, _, h2⟩ := inside_mem.1 ht
    exact ⟨x, h1, h2⟩
  have HTK : Hid (∀ (j : Nat) (t : Tk), L[j]? = some t → ∃ x, tkA (goneG G L j) t = some x) := Lib.hid fun j t hj => gone_tk h.good hnd hmm hj
  have HOT : Hid (∀ t ∈ L, okT t) := Lib.hid fun t ht => by obtain ⟨x, hx, rfl⟩ := hmm t ht; exact hok x hx
  have HLL : Hid (L.length ≤ 100000) := Lib.hid (by
    rw [← hL]; unfold insideA
    rw [sortT_len, List.length_map]
    exact Nat.le_trans (List.length_filter_le _ _) hlen)
  have HEND : Hid (∀ W T2', AlP W P q b1 b2 T1 T2' bl (goneG G L L.length) → W.cell? ⟨bl id, k * 5, none⟩ = some (.bool true) ∧ (∀ j, W.frozen? ⟨bl id, j, none⟩ = false) ∧ AlP (W.setCell ⟨bl id, k * 5, none⟩ (.bool false)) P q b1 b2 T1 T2' bl (turnG G id k false)) := Lib.hid fun W T2' hW => by
    have e0 : goneG G L L.length = ⟨G.sets, G.tasks.filter fun x => !inE id (k : Int) x⟩ := by rw [← hL]; exact gone_all h.good id k
    rw [e0] at hW
    have e1 : setA ⟨G.sets, G.tasks.filter fun x => !inE id (k : Int) x⟩ id = some sA := e
    obtain ⟨d0, _, _, _, _, df⟩ := hW.cells e1 hk
    rw [hu] at d0
    refine ⟨d0, df, ?_⟩
    have := hW.turned (b := false) e1 hk (by rw [hu]; rfl) (fun x hx => by simpa using (List.mem_filter.1 hx).2)
    rwa [turnG_gone] at this
  have HS := Lib.hid hs
  have HPR := Lib.hid (h.pr _ _ e)
  have HOLD := Lib.hid h.old
  have HD := Lib.hid hid
  rw [hL] at HI ⊢
  obtain ⟨gE, hgE⟩ : ∃ gE, bl id = gE := ⟨_, rfl⟩
  rw [hgE] at HF c0 cf HEND HPR
  clear h hs e hk hlen hok hL hnd hmm hid hgE hu
  go_enter Tryd.func16, Tryd.ntmps16
  go_wp2_with fail
  refine HF.out.mono ?_
  rintro e w1 ⟨rfl, rfl⟩
  go_wp2_with fail
  refine HI.out.mono ?_
  rintro e w2 ⟨v, rfl, hv, b2'⟩
  obtain ⟨A, c, hvf⟩ := hv.form
  subst hvf
  have HV := Lib.hid hv
  have H2 := Lib.hid (HH.out.on b2')
  have HB2 := Lib.hid b2'
  obtain ⟨N, hN⟩ : ∃ N, L.length = N := ⟨_, rfl⟩
  have HN := Lib.hid hN
  have hN3 : N ≤ 100000 := by have := HLL.out; omega
  rw [hN]
  clear hv b2' hN HI HF
  go_wp2_with fail
  go_loopw [37] (fun I wr => ∃ j : Nat, j ≤ N ∧ I = .int .i64 (j : Int) ∧ (∃ T2', AlP wr P q b1 b2 T1 T2' bl (goneG G L j)) ∧ ChP P w1 wr ∧ OwnE encTk 32 wr w1.heap.size (.slice A N c) L) (fun I _ => N - natOf I)
  case atStart => exact ⟨0, Nat.zero_le _, rfl, ⟨T2, by rw [gone_zero]; exact H2.out⟩, ChP.of_below HB2.out, by have := HV.out; rwa [HN.out] at this⟩
  case round =>
    obtain ⟨j, hj, rfl, ⟨T2', ha⟩, hc, ho⟩ := hrel
    clear c0 cf HV H2 HB2
    by_cases hjn : j < N
    · obtain ⟨t, ht⟩ : ∃ t, L[j]? = some t := ⟨_, List.getElem?_eq_getElem (by rw [HN.out]; exact hjn)⟩
      obtain ⟨ad, g, hAd, hadd, hg1, hg2, hf, hcc⟩ := ho.at ht
      subst hAd
      have d0 := hcc 0 _ rfl
      have d1 := hcc 1 _ rfl
      rw [Nat.add_zero] at d0
      obtain ⟨x, hx⟩ := HTK.out j t ht
      have j0 : (0 : Int) ≤ (j : Int) := by omega
      have j1 : (j : Int) < (N : Int) := by omega
      have hw1 : wrap64 ((j : Int) + 1) = ((j + 1 : Nat) : Int) := by unfold wrap64; omega
      have HT := Lib.hid (fun (W : World) (hb : Below wr.heap.size wr W) => atake_ok s (ha.on hb) ((HS.out.chp hc fun _ h => .inl h).on hb) (HOT.out t (List.mem_of_getElem? ht)) hx)
      have HO := Lib.hid ho; have HC := Lib.hid hc
      have HGS := Lib.hid (gone_succ (G := G) ht)
      clear ho hc ha ht hx hcc hf hg1 hg2
      go_wp2_with fail
      refine (HT.out _ ((Below.refl _ _).alloc (Nat.le_refl _) _)).mono ?_
      rintro e w5 ⟨rfl, ha5, hc5⟩
      have HA5 := Lib.hid ha5; have HC5 := Lib.hid hc5
      rw [errA0]
      clear ha5 hc5 d0 d1
      go_wp2_with fail
      go_roundw
      case rel =>
        have hcw : ChP P wr w5 := ((ChP.refl P wr).alloc _).trans HC5.out fun i hi => .inl hi
        refine ⟨j + 1, hjn, by rw [← hw1]; first | rfl | (congr 1; omega), ⟨_, by rw [← HGS.out]; exact HA5.out⟩, HC.out.trans hcw fun _ h => .inl h, ?_⟩
        refine HO.out.same fun i hi => ?_
        obtain ⟨k1, k2⟩ := HO.out.lt i hi
        exact hcw.block i k2 fun hp => by have := HOLD.out i hp; omega
      case measure => simp [natOf]; omega
    · obtain rfl : j = N := by omega
      rw [← HN.out] at ha
      obtain ⟨d0, df, hfin⟩ := HEND.out _ _ ha
      have HO := Lib.hid ho; have HC := Lib.hid hc; have HFI := Lib.hid hfin
      clear ho hc ha hfin
      go_wp2_with fail
      refine bodyPost_ret (v := .tuple #[.slice A j c, .nilIface]) (by simp [results, Tryd.results16, go_sem]) rfl ?_
      refine ⟨_, rfl, HFI.out.any, HC.out.setCell (.inl HPR.out) _, HO.out.same fun i hi => ?_⟩
      obtain ⟨k1, _⟩ := HO.out.lt i hi
      exact heap_setCell_other _ _ _ _ fun e => by have := HOLD.out gE HPR.out; have e' : i = gE := e; omega
end
/-- .. of no book. -/
theorem afall_nil (s : Nat → Addr) (w : World) (hs : Sent s w) (id pos : Int) :
    Calls Tryd.prog 16 #[.pointer none, .int .i64 id, .int .i64 pos] w fun e w' => e = .returned (.tuple #[.slice none 0 0, errV s 2]) ∧ Below w.heap.size w w' := by
  have HF := Lib.hid (afind_nil s w hs id pos)
  rw [errA s 2 (by omega)] at HF ⊢
  obtain ⟨x, hx⟩ : ∃ x, x = s (2 - 1) := ⟨_, rfl⟩
  rw [← hx] at HF ⊢
  clear hs hx
  go_enter Tryd.func16, Tryd.ntmps16
  go_wp2_with fail
  refine HF.out.mono ?_
  rintro e w1 ⟨rfl, hb⟩
  go_wp2_with fail
  exact bodyPost_ret (v := .tuple #[.slice none 0 0, .iface 225 (.pointer (some x))]) (by simp [results, Tryd.results16, go_sem]) rfl ⟨rfl, hb⟩
end Go.Proofs.YtbdnfppbiplpmaaDoor
