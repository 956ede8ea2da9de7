/- Rows of anything, in memory: their block, what another row of the same length makes of it, what a store of a run of cells does. No conditions. -/
import Derived.Test.YtlckofoabnnlhaaDoorRwK
import Derived.Shelf.GgSortFunc.InsertionK
import Derived.Laws.IdiomCopy
namespace Go.Proofs.YtlckofoabnnlhaaDoor
open Go Go.RowKit Go.Sort

section
variable {α : Type} {n : Nat} {E : EncK α n}
theorem cellsE_map {β : Type} (F : EncK β n) (f : β → α) (hf : ∀ y, F.enc y = E.enc (f y)) (L : List β) : cellsE F L = cellsE E (L.map f) := by
  induction L with
  | nil => rfl
  | cons y L ih => rw [cellsE_cons, List.map_cons, cellsE_cons, ih, hf]
theorem ownE_map {β : Type} {F : EncK β n} {f : β → α} (hf : ∀ y, F.enc y = E.enc (f y)) {e : TypeId} {w : World} {base : Nat} {v : Value} {L : List β} : OwnE F e w base v L ↔ OwnE E e w base v (L.map f) := by
  unfold OwnE
  rw [cellsE_map F f hf, List.length_map]
theorem flatE [Inhabited α] (E : EncK α n) (L : List α) : flatK E.enc n L.toArray = (cellsE E L).toArray := by
  apply Array.ext
  · simp [cellsE_len]
  · intro t h1 h2
    have ht : t < L.length * n := by simpa using h1
    have hn : 0 < n := by
      rcases Nat.eq_zero_or_pos n with h | h
      · subst h; simp at ht
      · exact h
    have hi : t / n < L.length := Nat.div_lt_of_lt_mul (by rwa [Nat.mul_comm] at ht)
    have e1 := get_flatK E.enc n L.toArray t (by simpa using ht)
    rw [getElem!_pos _ t (by simpa using ht)] at e1
    rw [e1]
    have e2 := cellsE_get E L (t / n) (t % n) (x := L[t / n]) (List.getElem?_eq_getElem hi) (Nat.mod_lt _ hn)
    rw [show t / n * n + t % n = t by rw [Nat.mul_comm]; exact Nat.div_add_mod t n] at e2
    have hc : t < (cellsE E L).length := by rw [cellsE_len]; exact ht
    rw [List.getElem?_eq_getElem hc] at e2
    have e3 : L.toArray[t / n]! = L[t / n] := by rw [getElem!_pos L.toArray (t / n) (by simpa using hi)]; simp
    rw [e3]
    have hr : t % n < (E.enc L[t / n]).length := by rw [E.len]; exact Nat.mod_lt _ hn
    rw [List.getElem?_eq_getElem hr] at e2
    rw [getElem!_pos (E.enc L[t / n]) (t % n) hr]
    simp only [List.getElem_toArray]
    exact (Option.some.inj e2).symm
/-- Behind a sort the same slice holds another list of the same length. -/
theorem ownE_shape [Inhabited α] {e : TypeId} {w : World} {base : Nat} {v : Value} {L : List α} (h : OwnE E e w base v L) : (v = .slice none 0 0 ∧ L = []) ∨ ∃ g cap, v = .slice (some ⟨g, 0, none⟩) L.length cap ∧ base ≤ g ∧ g < w.heap.size ∧ HoldsK E.enc n w g 0 L.toArray ∧
    ∀ (m : Nat) (os : Array Obj) (M : List α), M.length = L.length → OwnE E e (grow (putRowK E.enc n (Sort.ahead w m) g 0 M.toArray) os) base v M ∧ w.grownBy (grow (putRowK E.enc n (Sort.ahead w m) g 0 M.toArray) os) (some g) := by
  rcases h.2 with ⟨rfl, h0⟩ | ⟨g, cap, cur, rfl, hbase, hg, r1, r2, r3, r4⟩
  · exact .inl ⟨rfl, List.eq_nil_of_length_eq_zero h0⟩
  · have hlt := lt_of_block hg
    refine .inr ⟨g, cap, rfl, hbase, hlt, ?_, fun m os M hM => ⟨?_, ?_⟩⟩
    · unfold HoldsK
      rw [flatE]
      intro j hj
      have hj' : j < L.length * n := by simpa [cellsE_len] using hj
      refine ⟨?_, by simp [World.frozen?, hg]⟩
      have h1 : (cur.toList.take (L.length * n))[j]? = (cellsE E L)[j]? := by rw [r4]
      rw [List.getElem?_take_of_lt hj'] at h1
      simp only [World.cell?, hg, Nat.zero_add]
      simp only [Option.isSome_none, Bool.false_eq_true, if_false]
      rw [← Array.getElem?_toList, h1]
      have hc : j < (cellsE E L).length := by rw [cellsE_len]; exact hj'
      simp [hc]
    · have hb : (grow (putRowK E.enc n (Sort.ahead w m) g 0 M.toArray) os).heap[g]? = some (.cells (putCells id 0 (cellsE E M).toArray cur) e (0, 0)) := by
        rw [heap_grow_old _ _ (by simpa [putRowK] using hlt)]
        simp [putRowK, flatE, putRow, mapBlock, Sort.ahead, Array.getElem?_modify, hg, onCells]
      have hl : (cellsE E M).length = L.length * n := by rw [cellsE_len, hM]
      refine ⟨cellsE_len E M, .inr ⟨g, cap, _, by rw [hM], hbase, hb, by rw [hM]; exact r1, r2, by simp [putCells, r3], ?_⟩⟩
      rw [hM]
      apply List.ext_getElem?
      intro j
      by_cases hj : j < L.length * n
      · rw [List.getElem?_take_of_lt hj, Array.getElem?_toList]
        have hjc : j < cur.size := by rw [r3]; have := Nat.mul_le_mul_right n r1; omega
        simp [putCells, hl, hj, hjc]
      · rw [List.getElem?_take_eq_none (by omega), List.getElem?_eq_none (by omega)]
    · refine ⟨rfl, rfl, rfl, by simp [putRowK], fun k hk hne => ?_⟩
      rw [heap_grow_old _ _ (by simpa [putRowK] using hk)]
      have : g ≠ k := fun e => hne (by rw [e])
      simp [putRowK, putRow, mapBlock, Sort.ahead, Array.getElem?_modify, this]
/-- A row's block. -/
theorem ownE_raw {e : TypeId} {w : World} {base g m c : Nat} {L : List α} (h : OwnE E e w base (.slice (some ⟨g, 0, none⟩) m c) L) : ∃ cur, w.heap[g]? = some (.cells cur e (0, 0)) ∧ base ≤ g ∧ m = L.length ∧ L.length ≤ c ∧ c ≤ maxLen ∧ cur.size = c * n ∧ cur.toList.take (L.length * n) = cellsE E L := by
  rcases h.2 with ⟨hv, _⟩ | ⟨g', cap, cur, hv, hbase, hg, r1, r2, r3, r4⟩
  · simp at hv
  · simp only [Value.slice.injEq, Option.some.injEq, Addr.mk.injEq, and_true] at hv
    obtain ⟨rfl, rfl, rfl⟩ := hv
    exact ⟨cur, hg, hbase, rfl, r1, r2, r3, r4⟩
theorem ownE_of {e : TypeId} {w : World} {base g cap : Nat} {M : List α} {cur : Array Value} (hh : w.heap[g]? = some (.cells cur e (0, 0))) (hb : base ≤ g) (h1 : M.length ≤ cap) (h2 : cap ≤ maxLen) (h3 : cur.size = cap * n)
    (hc : ∀ j u, (cellsE E M)[j]? = some u → w.cell? ⟨g, j, none⟩ = some u) : OwnE E e w base (.slice (some ⟨g, 0, none⟩) M.length cap) M := by
  refine ⟨cellsE_len E M, .inr ⟨g, cap, cur, rfl, hb, hh, h1, h2, h3, ?_⟩⟩
  apply List.ext_getElem?
  intro j
  by_cases hj : j < M.length * n
  · rw [List.getElem?_take_of_lt hj, Array.getElem?_toList]
    have hj' : j < (cellsE E M).length := by rw [cellsE_len]; exact hj
    have := hc j _ (List.getElem?_eq_getElem hj')
    rw [List.getElem?_eq_getElem hj', ← this]
    simp [World.cell?, hh]
  · rw [List.getElem?_take_eq_none (by omega), List.getElem?_eq_none (by rw [cellsE_len]; omega)]
theorem heap_setCells_row (g : Nat) (t : TypeId) : ∀ (vs : List Value) (o : Nat) (w : World) (cs : Array Value), w.heap[g]? = some (.cells cs t (0, 0)) → ∃ cs', (w.setCells g o vs).heap[g]? = some (.cells cs' t (0, 0)) ∧ cs'.size = cs.size
  | [], _, _, cs, h => ⟨cs, h, rfl⟩
  | v :: vs, o, w, cs, h => by
    obtain ⟨cs', h1, h2⟩ := heap_setCells_row g t vs (o + 1) (w.setCell ⟨g, o, none⟩ v) _ (heap_setCell_same w g o _ _ v h)
    exact ⟨cs', h1, by rw [h2]; simp⟩
theorem heap_setCells_off (g : Nat) : ∀ (vs : List Value) (o : Nat) (w : World) (k : Nat), k ≠ g → (w.setCells g o vs).heap[k]? = w.heap[k]?
  | [], _, _, _, _ => rfl
  | v :: vs, o, w, k, h => by rw [World.setCells, heap_setCells_off g vs (o + 1) _ k h]; exact heap_setCell_other w ⟨g, o, none⟩ k v h
theorem grownBy_setCells (g : Nat) : ∀ (vs : List Value) (o : Nat) (w w' : World), w.grownBy w' (some g) → w.grownBy (w'.setCells g o vs) (some g)
  | [], _, _, _, h => h
  | v :: vs, o, w, w', h => grownBy_setCells g vs (o + 1) w _ ⟨h.os, h.tape, h.output, by simpa [World.setCell] using h.size, fun k hk hne => by
      have hne' : k ≠ g := fun e => hne (by rw [e])
      rw [heap_setCell_other w' ⟨g, o, none⟩ k v hne']; exact h.block k hk hne⟩
/-- append(l, m...) as one step of a region that draws; m may be nil. -/
theorem step_append_L {P : Program} {w : World} {ops : Array Oper} {o : Oper} {a : Act} {K : Act → World → Prop} {Q : Exit → Act → World → Prop} {G : Prop} (hgd : o.guard = none) (s x : Operand) (t : TypeId)
    (ho : o.op = .call { callee := .builtin .append, args := #[s, x], argTypes := #[t, t] })
    {e : TypeId} (i : TypeInfo) (z : Value) (bytes : Nat) (ht : P.underlying t = some (.slice e)) (hi : P.info? e = some i) (hz : i.zero = some z)
    (hsize : i.size = n) (hby : i.bytes = bytes) (hzs : z.cells.size = n) (hsz : 0 < n)
    {base : Nat} {v : Value} {L M : List α} (hs : a.eval s = v) (hown : OwnE E e w base v L) {y : Value} (hx : a.eval x = y) (hl : LiesE E w y M)
    (h63 : L.length + M.length ≤ maxLen) (hbytes : (L.length + M.length) * bytes ≤ 140737488355328) (hbase : base ≤ w.heap.size)
    (h : ∀ v' w', OwnE E e w' base v' (L ++ M) → w.grownBy w' v.ownBlock → (v'.ownBlock = v.ownBlock ∨ v'.ownBlock = some w.heap.size) → K (a.put o.dst v') w') :
    if Region.wanted o (yielded ops a.tmps) = true then Oper.wp P o a w K Q else G := by
  rcases hl with ⟨rfl, rfl⟩ | ⟨ad, c, rfl, _, hc⟩
  · have hw : Region.wanted o (yielded ops a.tmps) = true := by simp [Region.wanted, hgd]
    rw [if_pos hw]
    have hrun := run_append_owned_none (P := P) (w := w) base t o.type e i n ht hi v L.length (cellsE E L) hown
    unfold Oper.wp
    simp [execOp, ho, resolve, invoke, builtin, hs, hx, hrun, Result.andThen]
    exact h v w (by rw [List.append_nil]; exact hown) (World.grownBy.refl w _) (.inl rfl)
  · exact step_append_E hgd s x t ho i z bytes ht hi hz hsize hby hzs hsz hs hown hx hc h63 hbytes hbase h
end
end Go.Proofs.YtlckofoabnnlhaaDoor
