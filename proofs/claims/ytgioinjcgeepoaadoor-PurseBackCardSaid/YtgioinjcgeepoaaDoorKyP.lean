/- The sorted keys of a map of the type purse.purses: slices.Sorted over maps.Keys by the shelf's contracts, at this program. Condition: the map is one that the calls have made. -/
import Derived.Test.YtgioinjcgeepoaaDoorSrt
import Derived.Test.YtgioinjcgeepoaaDoorMpI
import Derived.Shelf.SlIterI.Nil
namespace Go.Proofs.YtgioinjcgeepoaaDoor
open Go Go.RowKit Go.Maps Go.Sort Go.Shelf

/-- The numbers of the library's iterators in this program. -/
def renzP : Ren := ⟨fun | 6 => 19 | 7 => 20 | 8 => 24 | 9 => 25 | 10 => 26 | 11 => 29 | n => n, fun | 0 => 0 | 3 => 29 | 4 => 4 | 23 => 44 | 24 => 35 | 26 => 3 | 27 => 49 | 28 => 50 | 33 => 57 | n => n, fun n => n⟩
theorem layz6P : SlLaysZI.n6 Tryd.prog renzP where
  mixed := by kernel_rfl
  f6 := ⟨Tryd.f19.name, by kernel_rfl, Tryd.func19.trans (congrArg some (by kernel_rfl))⟩
  f8 := ⟨Tryd.f24.name, by kernel_rfl, Tryd.func24.trans (congrArg some (by kernel_rfl))⟩
  f11 := ⟨Tryd.f29.name, by kernel_rfl, Tryd.func29.trans (congrArg some (by kernel_rfl))⟩
  t0 := Tryd.underlying0
  a0 := Tryd.isAgg0
  z0 := Tryd.sizeOf0
  v0 := Tryd.zeroValue0
  t24 := Tryd.underlying35
  a24 := Tryd.isAgg35
  z24 := Tryd.sizeOf35
  v24 := Tryd.zeroValue35
  t26 := Tryd.underlying3
  a26 := Tryd.isAgg3
  z26 := Tryd.sizeOf3
  v26 := Tryd.zeroValue3
  t28 := Tryd.underlying50
  a28 := Tryd.isAgg50
  z28 := Tryd.sizeOf50
  v28 := Tryd.zeroValue50
  i26 := by kernel_rfl
theorem layz7P : SlLaysZI.n7 Tryd.prog renzP where
  mixed := by kernel_rfl
  f7 := ⟨Tryd.f20.name, by kernel_rfl, Tryd.func20.trans (congrArg some (by kernel_rfl))⟩
  f10 := ⟨Tryd.f26.name, by kernel_rfl, Tryd.func26.trans (congrArg some (by kernel_rfl))⟩
  t0 := Tryd.underlying0
  a0 := Tryd.isAgg0
  z0 := Tryd.sizeOf0
  v0 := Tryd.zeroValue0
  t4 := Tryd.underlying4
  a4 := Tryd.isAgg4
  z4 := Tryd.sizeOf4
  v4 := Tryd.zeroValue4
  t23 := Tryd.underlying44
  a23 := Tryd.isAgg44
  z23 := Tryd.sizeOf44
  v23 := Tryd.zeroValue44
  t26 := Tryd.underlying3
  a26 := Tryd.isAgg3
  z26 := Tryd.sizeOf3
  v26 := Tryd.zeroValue3
  t27 := Tryd.underlying49
  a27 := Tryd.isAgg49
  z27 := Tryd.sizeOf49
  v27 := Tryd.zeroValue49
  t28 := Tryd.underlying50
  a28 := Tryd.isAgg50
  z28 := Tryd.sizeOf50
  v28 := Tryd.zeroValue50
  t33 := Tryd.underlying57
  a33 := Tryd.isAgg57
  z33 := Tryd.sizeOf57
  v33 := Tryd.zeroValue57


theorem sortsP (m : Nat) : AnyZI.SortsIn Tryd.prog renzP Fence.wide m :=
  ⟨fun blk off cap ss W hH hblk hsz => callsIn_wide.2 (Any.slices_Sort_int lay189 blk off cap ss W hH hblk hsz), fun p cap W => callsIn_wide.2 (Any.slices_Sort_int_none lay189 p cap W)⟩
/-- maps.Keys. -/
theorem keysP_c (mb : Option Nat) (W : World) : Calls Tryd.prog 20 #[.map mb] W fun e w' => e = .returned (.func (.func 26) #[] #[.pointer (some ⟨W.heap.size, 0, none⟩)]) ∧ w' = W.alloc (.cells #[.map mb] 44) :=
  callsIn_wide.1 (AnyZI.keys_in layz7P Fence.wide 5 trivial rfl mb W)
/-- slices.Sorted over maps.Keys. -/
theorem sortedP_c {α : Type} {enc : α → Value} (b : Nat) (T : List (Int × α)) (w : World) (h : MapI Tryd.prog 3 enc w b T) (hf : T.length ≤ 1000000) :
    Calls Tryd.prog 19 #[.func (.func 26) #[] #[.pointer (some ⟨w.heap.size, 0, none⟩)]] (w.alloc (.cells #[.map (some b)] 44)) fun e w' =>
      ∃ v : Value, e = .returned v ∧ IOwn w' w.heap.size v (keysUp T) ∧ Below w.heap.size w w' := by
  obtain ⟨D, hown, hme⟩ := h
  have hbl := hown.lt
  have hsz := hme.size
  have hseq : SeqGives Fence.wide 2 Tryd.prog 26 #[.pointer (some ⟨w.heap.size, 0, none⟩)] encZ (fun ss => ss.Perm (intKeys D)) (Maps.size D) (w.alloc (.cells #[.map (some b)] 44)) :=
    AnyZI.keys_gives (ρ := renzP) { layz7P with } Fence.wide _ trivial rfl (by omega) w.heap.size b T.length D _ (by simp) (by simp) (hown.alloc _)
  have cS := AnyZI.sorted_in layz6P Fence.wide 5 trivial trivial trivial trivial rfl (by omega) (sortsP _) (enters_of Tryd.func25 (by kernel_rfl) rfl) 26 #[.pointer (some ⟨w.heap.size, 0, none⟩)] trivial (enters_of Tryd.func26 (by kernel_rfl) rfl) _ _ (by unfold maxLen; omega) (by omega) _ hseq
  refine (callsIn_wide.1 cS).mono ?_
  rintro e w' ⟨v, ss, rfl, hp, hrow, _, hb⟩
  have e1 : (w.alloc (.cells #[.map (some b)] 44)).heap.size = w.heap.size + 1 := by simp
  rw [e1] at hrow hb
  have e2 : ss.mergeSort leI = keysUp T := (mergeSort_of_perm_i hp).trans (MapI.sorted hown hme Tryd.underlying3)
  have e3 : ss.length = (keysUp T).length := by rw [← e2]; simp
  refine ⟨v, rfl, ?_, ((Below.refl _ w).alloc (Nat.le_refl _) _).trans (hb.mono (Nat.le_succ _))⟩
  rw [e2, e3] at hrow
  refine ⟨hrow.1, ?_⟩
  rcases hrow.2 with k | ⟨g, cap, cur, rfl, hbase, r⟩
  · exact .inl k
  · exact .inr ⟨g, cap, cur, rfl, by omega, r⟩
/-- .. of no map. -/
theorem sortedP_nil (w : World) :
    Calls Tryd.prog 19 #[.func (.func 26) #[] #[.pointer (some ⟨w.heap.size, 0, none⟩)]] (w.alloc (.cells #[.map none] 44)) fun e w' =>
      e = .returned (.slice none 0 0) ∧ Below w.heap.size w w' := by
  have hseq : SeqGives Fence.wide 2 Tryd.prog 26 #[.pointer (some ⟨w.heap.size, 0, none⟩)] encZ (fun ss : List Int => ss = []) 0 (w.alloc (.cells #[.map none] 44)) :=
    AnyZI.keys_gives_nil (ρ := renzP) { layz7P with } Fence.wide _ trivial rfl w.heap.size _ (by simp) (by simp)
  have cS := AnyZI.sorted_in layz6P Fence.wide 5 trivial trivial trivial trivial rfl (by omega) (sortsP _) (enters_of Tryd.func25 (by kernel_rfl) rfl) 26 #[.pointer (some ⟨w.heap.size, 0, none⟩)] trivial (enters_of Tryd.func26 (by kernel_rfl) rfl) _ 0 (Nat.zero_le _) (by omega) _ hseq
  refine (callsIn_wide.1 cS).mono ?_
  rintro e w' ⟨v, ss, rfl, rfl, hrow, hn, hb⟩
  have e1 : (w.alloc (.cells #[.map none] 44)).heap.size = w.heap.size + 1 := by simp
  rw [e1] at hb
  exact ⟨by rw [hn.2 rfl], ((Below.refl _ w).alloc (Nat.le_refl _) _).trans (hb.mono (Nat.le_succ _))⟩
end Go.Proofs.YtgioinjcgeepoaaDoor
