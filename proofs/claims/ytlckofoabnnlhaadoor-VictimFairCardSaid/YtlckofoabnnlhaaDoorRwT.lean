/- Rows of anything, in memory, part 3: copy and clear of whole elements, a store of a whole element, a part of a row. No conditions. -/
import Derived.Test.YtlckofoabnnlhaaDoorRwS
import Derived.Shelf.SlicesQ.IndexFunc
import Derived.Lib.Overlaps
import Derived.Lib.AppendZerosOnto
namespace Go.Proofs.YtlckofoabnnlhaaDoor
open Go Go.RowKit Go.Shelf Go.Sort

section
variable {P : Program}
/-- copy of whole elements of k cells each. -/
theorem run_copy_K (w : World) (dT sT ty elem : TypeId) (k b o dLen dCap : Nat) (a : Addr) (sLen sCap : Nat) (cs : List Value)
    (hu : P.underlying dT = some (.slice elem)) (hs : (P.info? elem).map (·.size) = some k) (hn : cs.length = Nat.min sLen dLen * k)
    (hsrc : ∀ j v, cs[j]? = some v → w.cell? (a.add j) = some v) (hc : ∀ j, j < cs.length → (w.cell? ⟨b, o + j, none⟩).isSome = true) (hf : ∀ j, j < cs.length → w.frozen? ⟨b, o + j, none⟩ = false) (h1 : ∀ v ∈ cs, v.oneCell' = true) :
    (Builtin.copy_ #[dT, sT] ty #[.slice (some ⟨b, o, none⟩) dLen dCap, .slice (some a) sLen sCap]).run P w = .ok (goInt (Nat.min sLen dLen)) (w.setCells b o cs) := by
  have hl := run_loadCells_list (P := P) w a cs hsrc
  have hst := run_storeCells_cells (P := P) b o cs 0 w (by simpa using hc) (by simpa using hf) h1
  cases hq : P.info? elem with
  | none => simp [hq] at hs
  | some i =>
    have hi : i.size = k := by simpa [hq] using hs
    rw [hn] at hl
    simp [Builtin.copy_, run_underlying hu, Builtin.lenOf, Builtin.firstCells, sizeOf, typeInfo, hq, hi, hl, hst]
/-- The cells of m zero values. -/
def zerosK (z : Array Value) (m : Nat) : List Value := (Builtin.zeroCells z m).toList
theorem zerosK_len (z : Array Value) (m : Nat) : (zerosK z m).length = m * z.size := by simp [zerosK, Builtin.zeroCells]
theorem zerosK_one {z : Array Value} (h : ∀ u ∈ z.toList, u.oneCell' = true) (m : Nat) : ∀ u ∈ zerosK z m, u.oneCell' = true := by
  intro u hu
  simp only [zerosK, Builtin.zeroCells, Array.toList_map, List.mem_map] at hu
  obtain ⟨i, hi, rfl⟩ := hu
  have hi' : i < m * z.size := by simpa using hi
  have hz : 0 < z.size := by
    rcases Nat.eq_zero_or_pos z.size with h0 | h0
    · rw [h0] at hi'; simp at hi'
    · exact h0
  have hm : i % z.size < z.size := Nat.mod_lt _ hz
  rw [getElem!_pos z _ hm]
  exact h _ (Array.getElem_mem_toList _)
/-- clear of whole elements of k cells each. -/
theorem run_clear_K (w : World) (t e ty : TypeId) (z : Value) (ht : P.underlying t = some (.slice e)) (hv : ∀ w, (zeroValue e).run P w = .ok z w) (h1 : ∀ u ∈ z.cells.toList, u.oneCell' = true) (b o n c : Nat)
    (hc : ∀ j, j < n * z.cells.size → (w.cell? ⟨b, o + j, none⟩).isSome = true) (hf : ∀ j, j < n * z.cells.size → w.frozen? ⟨b, o + j, none⟩ = false) :
    (Builtin.clear_ #[t] ty #[.slice (some ⟨b, o, none⟩) n c]).run P w = .ok (.tuple #[]) (w.setCells b o (zerosK z.cells n)) := by
  have hzl := zerosK_len z.cells n
  have hst := run_storeCells_cells (P := P) b o (zerosK z.cells n) 0 w (by rw [hzl]; simpa using hc) (by rw [hzl]; simpa using hf) (zerosK_one h1 n)
  simp only [Nat.add_zero] at hst
  unfold zerosK at hst ⊢
  rcases Nat.eq_zero_or_pos n with rfl | hn
  · have h0 : (Builtin.zeroCells z.cells 0).toList = [] := by simp [Builtin.zeroCells]
    simp [Builtin.clear_, run_underlying ht, h0, World.setCells]
  · obtain ⟨m, rfl⟩ : ∃ m, n = m + 1 := ⟨n - 1, by omega⟩
    simp [Builtin.clear_, run_underlying ht, hv, hst]
end
section
variable {α : Type} {n : Nat} {E : EncK α n}
/-- What a cell of an owned row is. -/
theorem own_cellE' {e : TypeId} {w : World} {base g m c : Nat} {L : List α} (h : OwnE E e w base (.slice (some ⟨g, 0, none⟩) m c) L) (j : Nat) (hj : j < L.length * n) : w.cell? ⟨g, j, none⟩ = (cellsE E L)[j]? := by
  obtain ⟨cur, hh, _, _, _, _, _, ht⟩ := ownE_raw h
  rw [← ht, List.getElem?_take_of_lt hj, Array.getElem?_toList]
  simp [World.cell?, hh]
/-- Every cell of an owned row's block is there, up to its capacity. -/
theorem own_room {e : TypeId} {w : World} {base g m c : Nat} {L : List α} (h : OwnE E e w base (.slice (some ⟨g, 0, none⟩) m c) L) (j : Nat) (hj : j < c * n) : (w.cell? ⟨g, j, none⟩).isSome = true ∧ w.frozen? ⟨g, j, none⟩ = false := by
  obtain ⟨cur, hh, _, _, _, _, hsz, _⟩ := ownE_raw h
  refine ⟨?_, frozen_of_heap hh j⟩
  rw [cell_of_heap hh, Array.getElem?_eq_getElem (by omega)]
  rfl
theorem cellsE_putAt (x : α) : ∀ (L : List α) (i : Nat), i < L.length → cellsE E (L.set i x) = cellsE E (L.take i) ++ E.enc x ++ cellsE E (L.drop (i + 1))
  | [], _, h => by simp at h
  | y :: L, 0, _ => by rw [List.set_cons_zero, cellsE_cons]; simp [cellsE]
  | y :: L, i + 1, h => by
    rw [List.set_cons_succ, cellsE_cons, cellsE_putAt x L i (by simpa using h), List.take_succ_cons, cellsE_cons, List.drop_succ_cons]
    simp only [List.append_assoc]
/-- A row behind a run of stores: what it then reads as, told cell by cell. -/
theorem own_setCells {e : TypeId} {w : World} {base g cap : Nat} {L M : List α} (h : OwnE E e w base (.slice (some ⟨g, 0, none⟩) L.length cap) L) (o : Nat) (vs : List Value) (hM : M.length ≤ cap) (hroom : o + vs.length ≤ cap * n)
    (hc : ∀ j u, (cellsE E M)[j]? = some u → (if o ≤ j ∧ j < o + vs.length then vs[j - o]? else w.cell? ⟨g, j, none⟩) = some u) :
    OwnE E e (w.setCells g o vs) base (.slice (some ⟨g, 0, none⟩) M.length cap) M ∧ w.grownBy (w.setCells g o vs) (some g) := by
  obtain ⟨cur, hh, hb, _, _, hm, hsz, _⟩ := ownE_raw h
  obtain ⟨c1, h1, s1⟩ := heap_setCells_row g e vs o _ _ hh
  refine ⟨ownE_of h1 hb hM hm (by rw [s1, hsz]) fun j u hu => ?_, grownBy_setCells g _ _ _ _ ⟨rfl, rfl, rfl, Nat.le_refl _, fun _ _ _ => rfl⟩⟩
  have := hc j u hu
  by_cases hin : o ≤ j ∧ j < o + vs.length
  · rw [if_pos hin] at this
    have k := World.cell?_setCells_in g vs o w (fun t ht => (own_room h (o + t) (by omega)).1) (j - o) (by omega)
    rw [show o + (j - o) = j by omega] at k
    rw [k, ← this, List.getElem?_eq_getElem (by omega)]
  · rw [if_neg hin] at this
    rw [World.cell?_setCells_out g vs o w ⟨g, j, none⟩ (fun _ _ => by show j < o ∨ o + vs.length ≤ j; omega)]
    exact this
/-- Behind a store of a whole element. -/
theorem own_putAt {e : TypeId} {w : World} {base g cap : Nat} {L : List α} (h : OwnE E e w base (.slice (some ⟨g, 0, none⟩) L.length cap) L) {i : Nat} (hi : i < L.length) (x : α) :
    OwnE E e (w.setCells g (i * n) (E.enc x)) base (.slice (some ⟨g, 0, none⟩) (L.set i x).length cap) (L.set i x) ∧ w.grownBy (w.setCells g (i * n) (E.enc x)) (some g) := by
  obtain ⟨cur, hh, _, _, hc, _, _, _⟩ := ownE_raw h
  have hin : i * n + n ≤ L.length * n := by have := Nat.mul_le_mul_right n (show i + 1 ≤ L.length from hi); rwa [Nat.add_mul, Nat.one_mul] at this
  have hcn : L.length * n ≤ cap * n := Nat.mul_le_mul_right n hc
  refine own_setCells h (i * n) (E.enc x) (by rw [List.length_set]; exact hc) (by rw [E.len]; omega) fun j u hu => ?_
  have hj : j < L.length * n := by
    have := (List.getElem?_eq_some_iff.1 hu).1
    rwa [cellsE_len, List.length_set] at this
  rw [cellsE_putAt x L i hi] at hu
  have l1 : (cellsE E (L.take i)).length = i * n := by rw [cellsE_len, List.length_take, Nat.min_eq_left (by omega)]
  rw [E.len]
  by_cases h1 : j < i * n
  · rw [if_neg (by omega), own_cellE' h j hj]
    rw [List.getElem?_append_left (by rw [List.length_append, l1]; omega), List.getElem?_append_left (by rw [l1]; exact h1), ← cellsE_take, List.getElem?_take_of_lt h1] at hu
    exact hu
  · by_cases h2 : j < i * n + n
    · rw [if_pos ⟨by omega, h2⟩]
      rw [List.getElem?_append_left (by rw [List.length_append, l1, E.len]; exact h2), List.getElem?_append_right (by rw [l1]; omega), l1] at hu
      exact hu
    · rw [if_neg (by omega), own_cellE' h j hj]
      rw [List.getElem?_append_right (by rw [List.length_append, l1, E.len]; omega), List.length_append, l1, E.len, ← cellsE_drop, List.getElem?_drop] at hu
      rw [show (i + 1) * n + (j - (i * n + n)) = j by rw [Nat.add_mul, Nat.one_mul]; omega] at hu
      exact hu
/-- The head of an owned row. -/
theorem own_take {e : TypeId} {w : World} {base g m cap : Nat} {L : List α} (h : OwnE E e w base (.slice (some ⟨g, 0, none⟩) m cap) L) (i : Nat) (hi : i ≤ L.length) :
    OwnE E e w base (.slice (some ⟨g, 0, none⟩) i cap) (L.take i) := by
  obtain ⟨cur, hh, hb, _, hc, hm, hsz, _⟩ := ownE_raw h
  have hl : (L.take i).length = i := by rw [List.length_take]; omega
  have := ownE_of (E := E) (M := L.take i) (base := base) (cap := cap) hh hb (by omega) hm hsz fun j u hu => ?_
  · rwa [hl] at this
  · rw [← cellsE_take] at hu
    have hj : j < i * n := by have := (List.getElem?_eq_some_iff.1 hu).1; rw [List.length_take] at this; omega
    rw [List.getElem?_take_of_lt hj] at hu
    have := Nat.mul_le_mul_right n hi
    rw [own_cellE' h j (by omega)]
    exact hu
/-- An element's cells, as a load asks them. -/
theorem own_load {e : TypeId} {w : World} {base g m cap : Nat} {L : List α} (h : OwnE E e w base (.slice (some ⟨g, 0, none⟩) m cap) L) {i : Nat} {x : α} (hi : L[i]? = some x) (P : Program) :
    Sem.run P (loadCellsFrom ⟨g, i * n, none⟩ 0 n #[]) w = .ok (E.enc x).toArray w :=
  run_loadCellsFrom_list P _ _ _ n (E.len x) fun j v hj => by
    rw [Addr.add_lit]
    have hjn : j < n := by have := (List.getElem?_eq_some_iff.1 hj).1; rwa [E.len] at this
    have hil := (List.getElem?_eq_some_iff.1 hi).1
    have := Nat.mul_le_mul_right n (show i + 1 ≤ L.length from hil)
    rw [Nat.add_mul, Nat.one_mul] at this
    rw [own_cellE' h _ (by omega), cellsE_get E L i j hi hjn]
    exact hj
/-- A store of a whole element, as the walk asks it. -/
theorem own_store {e : TypeId} {w : World} {base g m cap : Nat} {L : List α} (h : OwnE E e w base (.slice (some ⟨g, 0, none⟩) m cap) L) {i : Nat} (hi : i < cap) (x : α) (P : Program) :
    Sem.run P (storeCells ⟨g, i * n, none⟩ (E.enc x) 0) w = .ok () (w.setCells g (i * n) (E.enc x)) := by
  have hin := Nat.mul_le_mul_right n (show i + 1 ≤ cap from hi)
  rw [Nat.add_mul, Nat.one_mul] at hin
  have := run_storeCells_cells (P := P) g (i * n) (E.enc x) 0 w (fun j hj => by rw [E.len] at hj; exact (own_room h _ (by omega)).1) (fun j hj => by rw [E.len] at hj; exact (own_room h _ (by omega)).2) (E.one x)
  simpa using this
/-- What DeleteFunc has done behind j elements: i of them are kept. -/
structure DelI (p : α → Bool) (L : List α) (i j : Nat) (M : List α) : Prop where
  len : M.length = L.length
  lt : i < j
  head : M.take i = (L.take j).filter fun x => !p x
  rest : M.drop j = L.drop j
theorem filter_keep {p : α → Bool} {L : List α} (h : ∀ x ∈ L, p x = false) : (L.filter fun x => !p x) = L := List.filter_eq_self.2 fun x hx => by simp [h x hx]
theorem DelI.start {p : α → Bool} {L : List α} {k : Nat} {x : α} (hk : L[k]? = some x) (hx : p x = true) (h : ∀ y ∈ L.take k, p y = false) : DelI p L k (k + 1) L :=
  ⟨rfl, Nat.lt_succ_self _, by rw [List.take_add_one, hk, Option.toList_some, List.filter_append, filter_keep h]; simp [hx], rfl⟩
theorem DelI.at {p : α → Bool} {L M : List α} {i j : Nat} (h : DelI p L i j M) {x : α} (hx : L[j]? = some x) : M[j]? = some x := by
  have := congrArg (fun X => X[0]?) h.rest
  simpa [hx] using this
theorem DelI.keep {p : α → Bool} {L M : List α} {i j : Nat} (h : DelI p L i j M) {x : α} (hx : L[j]? = some x) (hp : p x = false) : DelI p L (i + 1) (j + 1) (M.set i x) := by
  have hj := (List.getElem?_eq_some_iff.1 hx).1
  have hi : i < M.length := by have := h.lt; have := h.len; omega
  refine ⟨by rw [List.length_set]; exact h.len, by have := h.lt; omega, ?_, ?_⟩
  · rw [List.take_add_one, List.getElem?_set_self hi, List.take_set_of_le (Nat.le_refl _), h.head, List.take_add_one, hx, List.filter_append]
    simp [hp]
  · rw [List.drop_set_of_lt (by have := h.lt; omega), ← List.drop_drop, h.rest, List.drop_drop]
theorem DelI.skip {p : α → Bool} {L M : List α} {i j : Nat} (h : DelI p L i j M) {x : α} (hx : L[j]? = some x) (hp : p x = true) : DelI p L i (j + 1) M := by
  refine ⟨h.len, by have := h.lt; omega, ?_, by rw [← List.drop_drop, h.rest, List.drop_drop]⟩
  rw [h.head, List.take_add_one, hx, List.filter_append]
  simp [hp]
theorem DelI.done {p : α → Bool} {L M : List α} {i : Nat} (h : DelI p L i L.length M) : M.take i = L.filter fun x => !p x := by rw [h.head, List.take_length]
/-- What IndexFunc answers. -/
theorem idx_cases [Inhabited α] (p : α → Bool) (L : List α) : (Lib.idxBy (fun (_ : α) y => p y) (L.take L.length) default = -1 ∧ ∀ x ∈ L, p x = false) ∨
    ∃ k x, k < L.length ∧ Lib.idxBy (fun (_ : α) y => p y) (L.take L.length) default = (k : Int) ∧ L[k]? = some x ∧ p x = true ∧ ∀ y ∈ L.take k, p y = false := by
  rcases Nat.lt_or_ge (L.findIdx p) L.length with hk | hk
  · right
    have hp : p L[L.findIdx p] = true := List.findIdx_getElem (w := hk)
    refine ⟨L.findIdx p, L[L.findIdx p], hk, ?_, List.getElem?_eq_getElem hk, hp, ?_⟩
    · refine Lib.idxBy_hit _ L L.length _ default hk (Nat.le_refl _) (by rw [getElem!_pos L _ hk]; exact hp) fun j hj => ?_
      rw [getElem!_pos L j (by omega)]
      have := List.not_of_lt_findIdx (p := p) (xs := L) (i := j) hj
      simpa using this
    · intro y hy
      obtain ⟨j, hj, rfl⟩ := List.mem_take_iff_getElem.1 hy
      have := List.not_of_lt_findIdx (p := p) (xs := L) (i := j) (by omega)
      simpa using this
  · left
    have hall : ∀ x ∈ L, p x = false := fun x hx => by
      have := List.findIdx_eq_length.1 (Nat.le_antisymm List.findIdx_le_length hk) x hx
      simpa using this
    refine ⟨Lib.idxBy_miss _ L L.length default fun j hj => ?_, hall⟩
    rw [getElem!_pos L j hj]
    exact hall _ (List.getElem_mem hj)
theorem grown_of_below {w w' : World} {row : Option Nat} (h : Below w.heap.size w w') : w.grownBy w' row := ⟨h.os, h.tape, h.output, h.size, fun k hk _ => h.block k hk⟩
theorem grown_then {w a b : World} {row : Option Nat} (h : w.grownBy a row) (k : a.grownBy b row) : w.grownBy b row := ⟨k.os.trans h.os, k.tape.trans h.tape, k.output.trans h.output, Nat.le_trans h.size k.size, fun j hj hne => (k.block j (Nat.lt_of_lt_of_le hj h.size) hne).trans (h.block j hj hne)⟩
theorem grown_drew {w a : World} {row : Option Nat} (h : w.grownBy a row) : w.grownBy a.drew row := ⟨h.os, h.tape, h.output, h.size, h.block⟩
end
end Go.Proofs.YtlckofoabnnlhaaDoor
