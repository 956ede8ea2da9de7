/- Rows of four numbers each that calls have made, told as lists. No conditions. -/
import Derived.Test.YtpgioihmaodlcaaDoorSum
import Derived.Shelf.GgSortFunc.InsertionK
namespace Go.Proofs.YtpgioihmaodlcaaDoor
open Go Go.RowKit Go.Sort

/-- The four cells of one. -/
def enc4 (x : V4) : List Value := [.int .i64 x.a, .int .i64 x.b, .int .i64 x.c, .int .i64 x.d]
/-- The cells of a list. -/
def cells4 (L : List V4) : List Value := L.flatMap enc4
theorem cells4_len (L : List V4) : (cells4 L).length = L.length * 4 := by
  induction L with
  | nil => rfl
  | cons x L ih => unfold cells4 at *; rw [List.flatMap_cons, List.length_append, ih, List.length_cons]; simp [enc4]; omega
theorem cells4_app (L M : List V4) : cells4 L ++ cells4 M = cells4 (L ++ M) := by unfold cells4; rw [List.flatMap_append]
theorem cells4_one (x : V4) : cells4 [x] = enc4 x := by simp [cells4]
theorem cells4_get : ∀ (L : List V4) (i r : Nat) {x : V4}, L[i]? = some x → r < 4 → (cells4 L)[i * 4 + r]? = (enc4 x)[r]?
  | [], _, _, _, h, _ => by cases h
  | y :: L, 0, r, x, h, hr => by
    cases h
    unfold cells4
    rw [List.flatMap_cons, List.getElem?_append_left (by simp [enc4]; omega)]
    simp
  | y :: L, i + 1, r, x, h, hr => by
    have ih := cells4_get L i r (x := x) (by simpa using h) hr
    unfold cells4 at ih ⊢
    rw [List.flatMap_cons, List.getElem?_append_right (by simp [enc4]; omega)]
    rw [← ih]
    congr 1
    simp [enc4]; omega
theorem cells4_oneCell (L : List V4) : ∀ u ∈ cells4 L, u.oneCell' = true := by
  intro u hu
  obtain ⟨x, _, hx⟩ := List.mem_flatMap.1 hu
  simp [enc4] at hx
  rcases hx with rfl | rfl | rfl | rfl <;> rfl
theorem flat4 (L : List V4) : flatK enc4 4 L.toArray = (cells4 L).toArray := by
  apply Array.ext
  · simp [cells4_len]
  · intro t h1 h2
    have ht : t < L.length * 4 := by simpa using h1
    have hi : t / 4 < L.length := by omega
    have e1 := get_flatK enc4 4 L.toArray t (by simpa using ht)
    rw [getElem!_pos _ t (by simpa using ht)] at e1
    rw [e1]
    have e2 := cells4_get L (t / 4) (t % 4) (x := L[t / 4]) (List.getElem?_eq_getElem hi) (by omega)
    rw [show t / 4 * 4 + t % 4 = t by omega] at e2
    have hc : t < (cells4 L).length := by rw [cells4_len]; exact ht
    rw [List.getElem?_eq_getElem hc] at e2
    have e3 : L.toArray[t / 4]! = L[t / 4] := by rw [getElem!_pos L.toArray (t / 4) (by simpa using hi)]; simp
    rw [e3]
    have hr : t % 4 < (enc4 L[t / 4]).length := by simp [enc4]; omega
    rw [List.getElem?_eq_getElem hr] at e2
    rw [getElem!_pos (enc4 L[t / 4]) (t % 4) hr]
    simp only [List.getElem_toArray]
    exact (Option.some.inj e2).symm

/-- A slice of a type of four numbers that the calls have made reads as a list. -/
def VOwn (e : TypeId) (w : World) (base : Nat) (v : Value) (L : List V4) : Prop := w.ownsRow base e 4 v L.length (cells4 L)
theorem VOwn.nil (e : TypeId) (w : World) (base : Nat) : VOwn e w base (.slice none 0 0) [] := ⟨rfl, .inl ⟨rfl, rfl⟩⟩
theorem VOwn.empty {e : TypeId} {w : World} {base : Nat} {L : List V4} (h : VOwn e w base (.slice none 0 0) L) : L = [] := by
  rcases h.2 with ⟨_, h0⟩ | ⟨g, cap, cur, hv, _⟩
  · exact List.eq_nil_of_length_eq_zero h0
  · simp at hv
theorem VOwn.form {e : TypeId} {w : World} {base : Nat} {v : Value} {L : List V4} (h : VOwn e w base v L) : ∃ A c, v = .slice A L.length c := by
  rcases h.2 with ⟨rfl, h0⟩ | ⟨g, cap, cur, rfl, _⟩
  · exact ⟨none, 0, by rw [h0]⟩
  · exact ⟨_, _, rfl⟩
theorem VOwn.same {e : TypeId} {w w' : World} {base : Nat} {v : Value} {L : List V4} (h : VOwn e w base v L) (hs : ∀ k, v.ownBlock = some k → w'.heap[k]? = w.heap[k]?) : VOwn e w' base v L := own_same h hs
theorem VOwn.lt {e : TypeId} {w : World} {base : Nat} {v : Value} {L : List V4} (h : VOwn e w base v L) : ∀ k, v.ownBlock = some k → base ≤ k ∧ k < w.heap.size := by
  intro k hk
  rcases h.2 with ⟨rfl, _⟩ | ⟨g, cap, cur, rfl, hb, hg, _⟩
  · simp [Value.ownBlock] at hk
  · simp [Value.ownBlock] at hk; subst hk; exact ⟨hb, lt_of_row hg⟩
theorem VOwn.on {e : TypeId} {w w' : World} {base : Nat} {v : Value} {L : List V4} (h : VOwn e w base v L) (hb : Below w.heap.size w w') : VOwn e w' base v L := h.same fun k hk => hb.block k (h.lt k hk).2
theorem VOwn.base {e : TypeId} {w : World} {base base' : Nat} {v : Value} {L : List V4} (h : VOwn e w base v L) (hb : base' ≤ base) : VOwn e w base' v L := by
  refine ⟨h.1, ?_⟩
  rcases h.2 with k | ⟨g, cap, cur, rfl, hg, r⟩
  · exact .inl k
  · exact .inr ⟨g, cap, cur, rfl, Nat.le_trans hb hg, r⟩
theorem add0' (g j : Nat) : (⟨g, 0, none⟩ : Addr).add j = ⟨g, j, none⟩ := by
  unfold Addr.add; split
  · subst_vars; rfl
  · simp
theorem VOwn.vrow {e : TypeId} {w : World} {base : Nat} {A : Option Addr} {n c : Nat} {L : List V4} (h : VOwn e w base (.slice A n c) L) : VRow w w.heap.size A L := by
  rcases h.2 with ⟨hv, h0⟩ | ⟨g, cap, cur, hv, hg, hh, hnc, hc, hsz, ht⟩
  · intro hn; omega
  · simp only [Value.slice.injEq] at hv
    obtain ⟨rfl, _, rfl⟩ := hv
    intro _
    refine ⟨_, rfl, lt_of_row hh, fun i z hz => ?_⟩
    have hcell : ∀ r u, (cells4 L)[r]? = some u → w.cell? ⟨g, r, none⟩ = some u := by
      intro r u hu
      rw [← ht, List.getElem?_take] at hu
      split at hu
      · simpa [World.cell?, hh] using hu
      · cases hu
    have g0 := cells4_get L i 0 hz (by omega)
    have g1 := cells4_get L i 1 hz (by omega)
    have g2 := cells4_get L i 2 hz (by omega)
    have g3 := cells4_get L i 3 hz (by omega)
    rw [add0']
    exact ⟨hcell _ _ g0, hcell _ _ g1, hcell _ _ g2, hcell _ _ g3⟩
/-- Behind a sort the same slice holds another list of the same length. -/
theorem VOwn.shape {e : TypeId} {w : World} {base : Nat} {v : Value} {L : List V4} (h : VOwn e w base v L) : (v = .slice none 0 0 ∧ L = []) ∨ ∃ g cap, v = .slice (some ⟨g, 0, none⟩) L.length cap ∧ base ≤ g ∧ g < w.heap.size ∧ HoldsK enc4 4 w g 0 L.toArray ∧
    ∀ (n : Nat) (os : Array Obj) (M : List V4), M.length = L.length → VOwn e (grow (putRowK enc4 4 (Sort.ahead w n) g 0 M.toArray) os) base v M ∧ w.grownBy (grow (putRowK enc4 4 (Sort.ahead w n) g 0 M.toArray) os) (some g) := by
  rcases h.2 with ⟨rfl, h0⟩ | ⟨g, cap, cur, rfl, hbase, hg, r1, r2, r3, r4⟩
  · exact .inl ⟨rfl, List.eq_nil_of_length_eq_zero h0⟩
  · have hlt := lt_of_row hg
    refine .inr ⟨g, cap, rfl, hbase, hlt, ?_, fun n os M hM => ⟨?_, ?_⟩⟩
    · unfold HoldsK
      rw [flat4]
      intro j hj
      have hj' : j < L.length * 4 := by simpa [cells4_len] using hj
      refine ⟨?_, by simp [World.frozen?, hg]⟩
      have h1 : (cur.toList.take (L.length * 4))[j]? = (cells4 L)[j]? := by rw [r4]
      rw [List.getElem?_take_of_lt hj'] at h1
      simp only [World.cell?, hg, Nat.zero_add]
      simp only [Option.isSome_none, Bool.false_eq_true, if_false]
      rw [← Array.getElem?_toList, h1]
      have hc : j < (cells4 L).length := by rw [cells4_len]; exact hj'
      simp [hc]
    · have hb : (grow (putRowK enc4 4 (Sort.ahead w n) g 0 M.toArray) os).heap[g]? = some (.cells (putCells id 0 (cells4 M).toArray cur) e (0, 0)) := by
        rw [heap_grow_old _ _ (by simpa [putRowK] using hlt)]
        simp [putRowK, flat4, putRow, mapBlock, Sort.ahead, Array.getElem?_modify, hg, onCells]
      have hl : (cells4 M).length = L.length * 4 := by rw [cells4_len, hM]
      refine ⟨cells4_len M, .inr ⟨g, cap, _, by rw [hM], hbase, hb, by rw [hM]; exact r1, r2, by simp [putCells, r3], ?_⟩⟩
      rw [hM]
      apply List.ext_getElem?
      intro j
      by_cases hj : j < L.length * 4
      · rw [List.getElem?_take_of_lt hj, Array.getElem?_toList]
        have hjc : j < cur.size := by rw [r3]; have := Nat.mul_le_mul_right 4 r1; omega
        simp [putCells, hl, hj, hjc]
      · rw [List.getElem?_take_eq_none (by omega), List.getElem?_eq_none (by omega)]
    · refine ⟨rfl, rfl, rfl, by simp [putRowK], fun k hk hne => ?_⟩
      rw [heap_grow_old _ _ (by simpa [putRowK] using hk)]
      have : g ≠ k := fun e => hne (by rw [e])
      simp [putRowK, putRow, mapBlock, Sort.ahead, Array.getElem?_modify, this]
end Go.Proofs.YtpgioihmaodlcaaDoor
