/- The sorted keys of a map of the type map[int][]alloc.envelope: slices.Sorted over maps.Keys by the shelf's contracts, at this program. Condition: the map is one that the calls have made. -/
import Derived.Test.YtbdnfppbiplpmaaDoorSrt
import Derived.Test.YtbdnfppbiplpmaaDoorKeyN
import Derived.Shelf.SlIterI.Nil
namespace Go.Proofs.YtbdnfppbiplpmaaDoor
open Go Go.RowKit Go.Maps Go.Sort Go.Shelf

/-- The numbers of the library's iterators in this program. -/
def renzA : Ren := ⟨fun | 6 => 65 | 7 => 66 | 8 => 86 | 9 => 87 | 10 => 88 | 11 => 105 | n => n, fun | 0 => 0 | 3 => 111 | 4 => 4 | 23 => 104 | 24 => 67 | 26 => 3 | 27 => 127 | 28 => 128 | 33 => 134 | n => n, fun n => n⟩
theorem layz6A : SlLaysZI.n6 Tryd.prog renzA where
  mixed := by kernel_rfl
  f6 := ⟨Tryd.f65.name, by kernel_rfl, Tryd.func65.trans (congrArg some (by kernel_rfl))⟩
  f8 := ⟨Tryd.f86.name, by kernel_rfl, Tryd.func86.trans (congrArg some (by kernel_rfl))⟩
  f11 := ⟨Tryd.f105.name, by kernel_rfl, Tryd.func105.trans (congrArg some (by kernel_rfl))⟩
  t0 := Tryd.underlying0
  a0 := Tryd.isAgg0
  z0 := Tryd.sizeOf0
  v0 := Tryd.zeroValue0
  t24 := Tryd.underlying67
  a24 := Tryd.isAgg67
  z24 := Tryd.sizeOf67
  v24 := Tryd.zeroValue67
  t26 := Tryd.underlying3
  a26 := Tryd.isAgg3
  z26 := Tryd.sizeOf3
  v26 := Tryd.zeroValue3
  t28 := Tryd.underlying128
  a28 := Tryd.isAgg128
  z28 := Tryd.sizeOf128
  v28 := Tryd.zeroValue128
  i26 := by kernel_rfl
theorem layz7A : SlLaysZI.n7 Tryd.prog renzA where
  mixed := by kernel_rfl
  f7 := ⟨Tryd.f66.name, by kernel_rfl, Tryd.func66.trans (congrArg some (by kernel_rfl))⟩
  f10 := ⟨Tryd.f88.name, by kernel_rfl, Tryd.func88.trans (congrArg some (by kernel_rfl))⟩
  t0 := Tryd.underlying0
  a0 := Tryd.isAgg0
  z0 := Tryd.sizeOf0
  v0 := Tryd.zeroValue0
  t4 := Tryd.underlying4
  a4 := Tryd.isAgg4
  z4 := Tryd.sizeOf4
  v4 := Tryd.zeroValue4
  t23 := Tryd.underlying104
  a23 := Tryd.isAgg104
  z23 := Tryd.sizeOf104
  v23 := Tryd.zeroValue104
  t26 := Tryd.underlying3
  a26 := Tryd.isAgg3
  z26 := Tryd.sizeOf3
  v26 := Tryd.zeroValue3
  t27 := Tryd.underlying127
  a27 := Tryd.isAgg127
  z27 := Tryd.sizeOf127
  v27 := Tryd.zeroValue127
  t28 := Tryd.underlying128
  a28 := Tryd.isAgg128
  z28 := Tryd.sizeOf128
  v28 := Tryd.zeroValue128
  t33 := Tryd.underlying134
  a33 := Tryd.isAgg134
  z33 := Tryd.sizeOf134
  v33 := Tryd.zeroValue134


/-- A map's keys in the datum are the row's. -/
theorem keysG_perm {α : Type} {enc : α → Value} {w : World} {b n : Nat} {T : List (Int × α)} {D : DataW Value} (hown : w.ownsMap Tryd.prog 3 raw b n D) (hme : MeansG enc (Lit.int .i64) i64 D T) : (T.map (·.1)).Perm (intKeys D) := by
  have hwf := intKeys_wf hown Tryd.underlying3
  obtain ⟨es, hD, hpw, _⟩ := hown.entries (int_keyed Tryd.underlying3)
  obtain ⟨es', hD', hko⟩ := hown.keysOf
  obtain rfl : es = es' := by rw [hD] at hD'; simpa using hD'
  have hkk : ∀ p ∈ es, ∃ x, p.1 = .int .i64 x := fun p hp => by
    obtain ⟨v, hv⟩ := hko p hp
    obtain ⟨x, _, hx, _⟩ := Maps.keyOf_i64 Tryd.underlying3 hv
    exact ⟨x, hx⟩
  subst hD
  refine perm_intKeys hpw hkk hme.apart.nodup fun x => ?_
  rw [← look_keys]
  by_cases hx : i64 x
  · rw [hme.has x hx]
  · constructor
    · intro h
      obtain ⟨p, hp, rfl⟩ := List.mem_map.1 (look_keys.1 h)
      exact absurd (hme.keys p hp) hx
    · intro h
      exfalso
      refine hx (wf_i64 (hwf x ?_))
      rw [has_eq, List.any_eq_true] at h
      obtain ⟨p, hp, hs⟩ := h
      obtain ⟨y, hy⟩ := hkk p hp
      rw [hy] at hs
      have : y = x := by simpa [Lit.sameKey] using hs
      exact List.mem_map.2 ⟨p, hp, by rw [hy, ← this]; rfl⟩
/-- The keys in ascending order. -/
def sortI (L : List Int) : List Int := L.mergeSort leI
theorem sortsA (m : Nat) : AnyZI.SortsIn Tryd.prog renzA Fence.wide m :=
  ⟨fun blk off cap ss W hH hblk hsz => callsIn_wide.2 (Any.slices_Sort_int lay189 blk off cap ss W hH hblk hsz), fun p cap W => callsIn_wide.2 (Any.slices_Sort_int_none lay189 p cap W)⟩
/-- maps.Keys. -/
theorem keysA_c (mb : Option Nat) (W : World) : Calls Tryd.prog 66 #[.map mb] W fun e w' => e = .returned (.func (.func 88) #[] #[.pointer (some ⟨W.heap.size, 0, none⟩)]) ∧ w' = W.alloc (.cells #[.map mb] 104) :=
  callsIn_wide.1 (AnyZI.keys_in layz7A Fence.wide 5 trivial rfl mb W)
/-- slices.Sorted over maps.Keys. -/
theorem sortedA_c {α : Type} {enc : α → Value} (b : Nat) (T : List (Int × α)) (w : World) (h : MapG Tryd.prog 3 (Lit.int .i64) i64 enc w b T) (hf : T.length ≤ 1000000) :
    Calls Tryd.prog 65 #[.func (.func 88) #[] #[.pointer (some ⟨w.heap.size, 0, none⟩)]] (w.alloc (.cells #[.map (some b)] 104)) fun e w' =>
      ∃ v : Value, e = .returned v ∧ IOwn w' w.heap.size v (sortI (T.map (·.1))) ∧ Below w.heap.size w w' := by
  obtain ⟨D, hown, hme⟩ := h
  have hbl := hown.lt
  have hsz := hme.size
  have hseq : SeqGives Fence.wide 2 Tryd.prog 88 #[.pointer (some ⟨w.heap.size, 0, none⟩)] encZ (fun ss => ss.Perm (intKeys D)) (Maps.size D) (w.alloc (.cells #[.map (some b)] 104)) :=
    AnyZI.keys_gives (ρ := renzA) { layz7A with } Fence.wide _ trivial rfl (by omega) w.heap.size b T.length D _ (by simp) (by simp) (hown.alloc _)
  have cS := AnyZI.sorted_in layz6A Fence.wide 5 trivial trivial trivial trivial rfl (by omega) (sortsA _) (enters_of Tryd.func87 (by kernel_rfl) rfl) 88 #[.pointer (some ⟨w.heap.size, 0, none⟩)] trivial (enters_of Tryd.func88 (by kernel_rfl) rfl) _ _ (by unfold maxLen; omega) (by omega) _ hseq
  refine (callsIn_wide.1 cS).mono ?_
  rintro e w' ⟨v, ss, rfl, hp, hrow, _, hb⟩
  have e1 : (w.alloc (.cells #[.map (some b)] 104)).heap.size = w.heap.size + 1 := by simp
  rw [e1] at hrow hb
  have e2 : ss.mergeSort leI = sortI (T.map (·.1)) := (mergeSort_of_perm_i hp).trans (mergeSort_of_perm_i (keysG_perm hown hme)).symm
  have e3 : ss.length = (sortI (T.map (·.1))).length := by rw [← e2]; simp
  refine ⟨v, rfl, ?_, ((Below.refl _ w).alloc (Nat.le_refl _) _).trans (hb.mono (Nat.le_succ _))⟩
  rw [e2, e3] at hrow
  refine ⟨hrow.1, ?_⟩
  rcases hrow.2 with k | ⟨g, cap, cur, rfl, hbase, r⟩
  · exact .inl k
  · exact .inr ⟨g, cap, cur, rfl, by omega, r⟩
/-- .. of no map. -/
theorem sortedA_nil (w : World) :
    Calls Tryd.prog 65 #[.func (.func 88) #[] #[.pointer (some ⟨w.heap.size, 0, none⟩)]] (w.alloc (.cells #[.map none] 104)) fun e w' =>
      e = .returned (.slice none 0 0) ∧ Below w.heap.size w w' := by
  have hseq : SeqGives Fence.wide 2 Tryd.prog 88 #[.pointer (some ⟨w.heap.size, 0, none⟩)] encZ (fun ss : List Int => ss = []) 0 (w.alloc (.cells #[.map none] 104)) :=
    AnyZI.keys_gives_nil (ρ := renzA) { layz7A with } Fence.wide _ trivial rfl w.heap.size _ (by simp) (by simp)
  have cS := AnyZI.sorted_in layz6A Fence.wide 5 trivial trivial trivial trivial rfl (by omega) (sortsA _) (enters_of Tryd.func87 (by kernel_rfl) rfl) 88 #[.pointer (some ⟨w.heap.size, 0, none⟩)] trivial (enters_of Tryd.func88 (by kernel_rfl) rfl) _ 0 (Nat.zero_le _) (by omega) _ hseq
  refine (callsIn_wide.1 cS).mono ?_
  rintro e w' ⟨v, ss, rfl, rfl, hrow, hn, hb⟩
  have e1 : (w.alloc (.cells #[.map none] 104)).heap.size = w.heap.size + 1 := by simp
  rw [e1] at hb
  exact ⟨by rw [hn.2 rfl], ((Below.refl _ w).alloc (Nat.le_refl _) _).trans (hb.mono (Nat.le_succ _))⟩
end Go.Proofs.YtbdnfppbiplpmaaDoor
