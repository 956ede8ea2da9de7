/- Rows of numbers that are sorted: the library's slices.Sort by the shelf's contract, at this program. Condition: the row is one that the calls have made. -/
import Derived.Test.YtbdnfppbiplpmaaDoorInts
import Derived.Lib.SlKeysI
import Derived.Shelf.Sort.Plain
import Derived.Shelf.Slices.In.SortNone
namespace Go.Proofs.YtbdnfppbiplpmaaDoor
open Go Go.RowKit Go.Maps Go.Sort Go.Shelf

/-- The numbers of the library's functions, types and variables in this program. -/
def renS : Ren := ⟨fun | 125 => 83 | 128 => 102 | 129 => 103 | 189 => 87 | 215 => 104 | 216 => 121 | 257 => 106 | 294 => 115 | 295 => 116 | 296 => 117 | 297 => 118 | 298 => 119 | 299 => 120 | 300 => 122 | 301 => 123 | 328 => 127 | 329 => 111 | 330 => 112 | 331 => 128 | 332 => 129 | 343 => 138 | n => n, fun | 0 => 0 | 3 => 3 | 4 => 4 | 5 => 5 | 9 => 9 | 28 => 67 | 46 => 103 | 51 => 177 | 53 => 180 | 131 => 189 | 182 => 184 | 183 => 185 | 218 => 198 | 222 => 135 | 228 => 211 | 229 => 212 | n => n, fun | n => n⟩
theorem lay189 : Lays.n189 Tryd.prog renS where
  mixed := by kernel_rfl
  f125 := Tryd.func83.trans (congrArg some (by kernel_rfl))
  f128 := Tryd.func102.trans (congrArg some (by kernel_rfl))
  f129 := Tryd.func103.trans (congrArg some (by kernel_rfl))
  f189 := Tryd.func87.trans (congrArg some (by kernel_rfl))
  f215 := Tryd.func104.trans (congrArg some (by kernel_rfl))
  f216 := Tryd.func121.trans (congrArg some (by kernel_rfl))
  f257 := Tryd.func106.trans (congrArg some (by kernel_rfl))
  f294 := Tryd.func115.trans (congrArg some (by kernel_rfl))
  f295 := Tryd.func116.trans (congrArg some (by kernel_rfl))
  f296 := Tryd.func117.trans (congrArg some (by kernel_rfl))
  f297 := Tryd.func118.trans (congrArg some (by kernel_rfl))
  f298 := Tryd.func119.trans (congrArg some (by kernel_rfl))
  f299 := Tryd.func120.trans (congrArg some (by kernel_rfl))
  f300 := Tryd.func122.trans (congrArg some (by kernel_rfl))
  f301 := Tryd.func123.trans (congrArg some (by kernel_rfl))
  f328 := Tryd.func127.trans (congrArg some (by kernel_rfl))
  f329 := Tryd.func111.trans (congrArg some (by kernel_rfl))
  f330 := Tryd.func112.trans (congrArg some (by kernel_rfl))
  f331 := Tryd.func128.trans (congrArg some (by kernel_rfl))
  f332 := Tryd.func129.trans (congrArg some (by kernel_rfl))
  f343 := Tryd.func138.trans (congrArg some (by kernel_rfl))
  t0 := Tryd.underlying0
  a0 := Tryd.isAgg0
  z0 := Tryd.sizeOf0
  v0 := Tryd.zeroValue0
  t3 := Tryd.underlying3
  a3 := Tryd.isAgg3
  z3 := Tryd.sizeOf3
  v3 := Tryd.zeroValue3
  t4 := Tryd.underlying4
  a4 := Tryd.isAgg4
  z4 := Tryd.sizeOf4
  v4 := Tryd.zeroValue4
  t5 := Tryd.underlying5
  a5 := Tryd.isAgg5
  z5 := Tryd.sizeOf5
  v5 := Tryd.zeroValue5
  t9 := Tryd.underlying9
  a9 := Tryd.isAgg9
  z9 := Tryd.sizeOf9
  v9 := Tryd.zeroValue9
  t28 := Tryd.underlying67
  a28 := Tryd.isAgg67
  z28 := Tryd.sizeOf67
  v28 := Tryd.zeroValue67
  t46 := Tryd.underlying103
  a46 := Tryd.isAgg103
  z46 := Tryd.sizeOf103
  v46 := Tryd.zeroValue103
  t51 := Tryd.underlying177
  a51 := Tryd.isAgg177
  z51 := Tryd.sizeOf177
  v51 := Tryd.zeroValue177
  t53 := Tryd.underlying180
  a53 := Tryd.isAgg180
  z53 := Tryd.sizeOf180
  v53 := Tryd.zeroValue180
  t131 := Tryd.underlying189
  a131 := Tryd.isAgg189
  z131 := Tryd.sizeOf189
  v131 := Tryd.zeroValue189
  t182 := Tryd.underlying184
  a182 := Tryd.isAgg184
  z182 := Tryd.sizeOf184
  v182 := Tryd.zeroValue184
  t183 := Tryd.underlying185
  a183 := Tryd.isAgg185
  z183 := Tryd.sizeOf185
  v183 := Tryd.zeroValue185
  t218 := Tryd.underlying198
  a218 := Tryd.isAgg198
  z218 := Tryd.sizeOf198
  v218 := Tryd.zeroValue198
  t222 := Tryd.underlying135
  a222 := Tryd.isAgg135
  z222 := Tryd.sizeOf135
  v222 := Tryd.zeroValue135
  t228 := Tryd.underlying211
  a228 := Tryd.isAgg211
  z228 := Tryd.sizeOf211
  v228 := Tryd.zeroValue211
  t229 := Tryd.underlying212
  a229 := Tryd.isAgg212
  z229 := Tryd.sizeOf212
  v229 := Tryd.zeroValue212

theorem put_grow (d : Array Int) (w : World) (g n : Nat) : putRow encZ (Sort.ahead w n) g 0 d = grow (putRow encZ (Sort.ahead w n) g 0 d) #[] := by unfold grow; rw [Array.append_empty]
theorem IOwn.shape {w : World} {base : Nat} {v : Value} {L : List Int} (h : IOwn w base v L) : (v = .slice none 0 0 ∧ L = []) ∨ ∃ g cap, v = .slice (some ⟨g, 0, none⟩) L.length cap ∧ base ≤ g ∧ g < w.heap.size ∧ Holds encZ w g 0 L.toArray ∧
    ∀ (n : Nat) (os : Array Obj) (M : List Int), M.length = L.length → IOwn (grow (putRow encZ (Sort.ahead w n) g 0 M.toArray) os) base v M := by
  rcases h.2 with ⟨e, h0⟩ | ⟨g, cap, cur, rfl, hbase, hg, r1, r2, r3, r4⟩
  · exact .inl ⟨e, List.eq_nil_of_length_eq_zero h0⟩
  · refine .inr ⟨g, cap, rfl, hbase, (Array.getElem?_eq_some_iff.1 hg).1, holds_of_block_i hg (by simpa [intVs] using r4), fun n os M hM => ?_⟩
    have := ownsRow_sorted_i (n := n) (os := os) hM hbase hg r1 r2 r3
    unfold IOwn
    rw [hM]; exact this

/-- slices.Sort. -/
theorem sort_own (base : Nat) (v : Value) (L : List Int) (w : World) (h : IOwn w base v L) (hl : L.length ≤ 1000) :
    Calls Tryd.prog 87 #[v] w fun e w' => e = .returned (.tuple #[]) ∧ IOwn w' base v (L.mergeSort leI) ∧ w.grownBy w' v.ownBlock := by
  rcases h.shape with ⟨rfl, rfl⟩ | ⟨g, cap, rfl, hb, hg, hH, hown⟩
  · refine (Any.slices_Sort_int_none lay189 none 0 w).mono ?_
    rintro e w' ⟨rfl, rfl⟩
    exact ⟨rfl, by simpa using h, World.grownBy.refl _ _⟩
  · refine (Any.slices_Sort_int lay189 g 0 cap L w hH hg (by omega)).mono ?_
    rintro e w' ⟨rfl, n, os, rfl⟩
    exact ⟨rfl, hown n os (L.mergeSort leI) (by simp), grownBy_sorted_i _⟩
end Go.Proofs.YtbdnfppbiplpmaaDoor
