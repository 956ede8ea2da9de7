/- Rows of numbers that are sorted: the library's slices.Sort by the shelf's contract, at this program. Condition: the row is one that the calls have made. -/
import Derived.Test.YtgioinjcgeepoaaDoorInts
import Derived.Lib.SlKeysI
import Derived.Shelf.Sort.Plain
import Derived.Shelf.Slices.In.SortNone
namespace Go.Proofs.YtgioinjcgeepoaaDoor
open Go Go.RowKit Go.Maps Go.Sort Go.Shelf

/-- The numbers of the library's functions, types and variables in this program. -/
def renS : Ren := ⟨fun | 125 => 31 | 128 => 41 | 129 => 42 | 189 => 25 | 215 => 48 | 216 => 38 | 257 => 30 | 294 => 32 | 295 => 33 | 296 => 34 | 297 => 35 | 298 => 36 | 299 => 37 | 300 => 39 | 301 => 40 | 328 => 43 | 329 => 44 | 330 => 45 | 331 => 46 | 332 => 47 | 343 => 49 | n => n, fun | 0 => 0 | 3 => 3 | 4 => 4 | 5 => 5 | 9 => 9 | 28 => 35 | 46 => 38 | 51 => 86 | 53 => 88 | 131 => 83 | 182 => 77 | 183 => 78 | 218 => 89 | 222 => 93 | 228 => 95 | 229 => 96 | n => n, fun | n => n⟩
theorem lay189 : Lays.n189 Tryd.prog renS where
  mixed := by kernel_rfl
  f125 := Tryd.func31.trans (congrArg some (by kernel_rfl))
  f128 := Tryd.func41.trans (congrArg some (by kernel_rfl))
  f129 := Tryd.func42.trans (congrArg some (by kernel_rfl))
  f189 := Tryd.func25.trans (congrArg some (by kernel_rfl))
  f215 := Tryd.func48.trans (congrArg some (by kernel_rfl))
  f216 := Tryd.func38.trans (congrArg some (by kernel_rfl))
  f257 := Tryd.func30.trans (congrArg some (by kernel_rfl))
  f294 := Tryd.func32.trans (congrArg some (by kernel_rfl))
  f295 := Tryd.func33.trans (congrArg some (by kernel_rfl))
  f296 := Tryd.func34.trans (congrArg some (by kernel_rfl))
  f297 := Tryd.func35.trans (congrArg some (by kernel_rfl))
  f298 := Tryd.func36.trans (congrArg some (by kernel_rfl))
  f299 := Tryd.func37.trans (congrArg some (by kernel_rfl))
  f300 := Tryd.func39.trans (congrArg some (by kernel_rfl))
  f301 := Tryd.func40.trans (congrArg some (by kernel_rfl))
  f328 := Tryd.func43.trans (congrArg some (by kernel_rfl))
  f329 := Tryd.func44.trans (congrArg some (by kernel_rfl))
  f330 := Tryd.func45.trans (congrArg some (by kernel_rfl))
  f331 := Tryd.func46.trans (congrArg some (by kernel_rfl))
  f332 := Tryd.func47.trans (congrArg some (by kernel_rfl))
  f343 := Tryd.func49.trans (congrArg some (by kernel_rfl))
  t0 := Tryd.underlying0
  a0 := Tryd.isAgg0
  z0 := Tryd.sizeOf0
  v0 := Tryd.zeroValue0
  t3 := Tryd.underlying3
  a3 := Tryd.isAgg3
  z3 := Tryd.sizeOf3
  v3 := Tryd.zeroValue3
  t4 := Tryd.underlying4
  a4 := Tryd.isAgg4
  z4 := Tryd.sizeOf4
  v4 := Tryd.zeroValue4
  t5 := Tryd.underlying5
  a5 := Tryd.isAgg5
  z5 := Tryd.sizeOf5
  v5 := Tryd.zeroValue5
  t9 := Tryd.underlying9
  a9 := Tryd.isAgg9
  z9 := Tryd.sizeOf9
  v9 := Tryd.zeroValue9
  t28 := Tryd.underlying35
  a28 := Tryd.isAgg35
  z28 := Tryd.sizeOf35
  v28 := Tryd.zeroValue35
  t46 := Tryd.underlying38
  a46 := Tryd.isAgg38
  z46 := Tryd.sizeOf38
  v46 := Tryd.zeroValue38
  t51 := Tryd.underlying86
  a51 := Tryd.isAgg86
  z51 := Tryd.sizeOf86
  v51 := Tryd.zeroValue86
  t53 := Tryd.underlying88
  a53 := Tryd.isAgg88
  z53 := Tryd.sizeOf88
  v53 := Tryd.zeroValue88
  t131 := Tryd.underlying83
  a131 := Tryd.isAgg83
  z131 := Tryd.sizeOf83
  v131 := Tryd.zeroValue83
  t182 := Tryd.underlying77
  a182 := Tryd.isAgg77
  z182 := Tryd.sizeOf77
  v182 := Tryd.zeroValue77
  t183 := Tryd.underlying78
  a183 := Tryd.isAgg78
  z183 := Tryd.sizeOf78
  v183 := Tryd.zeroValue78
  t218 := Tryd.underlying89
  a218 := Tryd.isAgg89
  z218 := Tryd.sizeOf89
  v218 := Tryd.zeroValue89
  t222 := Tryd.underlying93
  a222 := Tryd.isAgg93
  z222 := Tryd.sizeOf93
  v222 := Tryd.zeroValue93
  t228 := Tryd.underlying95
  a228 := Tryd.isAgg95
  z228 := Tryd.sizeOf95
  v228 := Tryd.zeroValue95
  t229 := Tryd.underlying96
  a229 := Tryd.isAgg96
  z229 := Tryd.sizeOf96
  v229 := Tryd.zeroValue96

theorem put_grow (d : Array Int) (w : World) (g n : Nat) : putRow encZ (Sort.ahead w n) g 0 d = grow (putRow encZ (Sort.ahead w n) g 0 d) #[] := by unfold grow; rw [Array.append_empty]
theorem IOwn.shape {w : World} {base : Nat} {v : Value} {L : List Int} (h : IOwn w base v L) : (v = .slice none 0 0 ∧ L = []) ∨ ∃ g cap, v = .slice (some ⟨g, 0, none⟩) L.length cap ∧ base ≤ g ∧ g < w.heap.size ∧ Holds encZ w g 0 L.toArray ∧
    ∀ (n : Nat) (os : Array Obj) (M : List Int), M.length = L.length → IOwn (grow (putRow encZ (Sort.ahead w n) g 0 M.toArray) os) base v M := by
  rcases h.2 with ⟨e, h0⟩ | ⟨g, cap, cur, rfl, hbase, hg, r1, r2, r3, r4⟩
  · exact .inl ⟨e, List.eq_nil_of_length_eq_zero h0⟩
  · refine .inr ⟨g, cap, rfl, hbase, (Array.getElem?_eq_some_iff.1 hg).1, holds_of_block_i hg (by simpa [intVs] using r4), fun n os M hM => ?_⟩
    have := ownsRow_sorted_i (n := n) (os := os) hM hbase hg r1 r2 r3
    unfold IOwn
    rw [hM]; exact this

/-- slices.Sort. -/
theorem sort_own (base : Nat) (v : Value) (L : List Int) (w : World) (h : IOwn w base v L) (hl : L.length ≤ 1000) :
    Calls Tryd.prog 25 #[v] w fun e w' => e = .returned (.tuple #[]) ∧ IOwn w' base v (L.mergeSort leI) ∧ w.grownBy w' v.ownBlock := by
  rcases h.shape with ⟨rfl, rfl⟩ | ⟨g, cap, rfl, hb, hg, hH, hown⟩
  · refine (Any.slices_Sort_int_none lay189 none 0 w).mono ?_
    rintro e w' ⟨rfl, rfl⟩
    exact ⟨rfl, by simpa using h, World.grownBy.refl _ _⟩
  · refine (Any.slices_Sort_int lay189 g 0 cap L w hH hg (by omega)).mono ?_
    rintro e w' ⟨rfl, n, os, rfl⟩
    exact ⟨rfl, hown n os (L.mergeSort leI) (by simp), grownBy_sorted_i _⟩
end Go.Proofs.YtgioinjcgeepoaaDoor
