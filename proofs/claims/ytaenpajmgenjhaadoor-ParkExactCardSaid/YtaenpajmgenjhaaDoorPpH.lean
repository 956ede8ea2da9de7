/- Parks in plain words (stage 15): what a deed does to what is live; five vectors in a block. No conditions. -/
import Derived.Test.YtaenpajmgenjhaaDoorPpG
import Derived.Test.YtaenpajmgenjhaaDoorRowPkA
namespace Go.Proofs.YtaenpajmgenjhaaDoor
open Go Go.RowKit

def subV (x y : V4) : V4 := ⟨x.a - y.a, x.b - y.b, x.c - y.c, x.d - y.d⟩
/-- What a machine adds to a cell's live capacity. -/
def contr (o : Option Mc) (c : Int) : V4 := match o with | some m => if m.st = 0 ∧ m.cell = c then m.has else ⟨0, 0, 0, 0⟩ | none => ⟨0, 0, 0, 0⟩
def wantV (x : V4) (o n : Option Mc) (c : Int) : V4 := addV (subV x (contr o c)) (contr n c)
theorem wantV_none (x : V4) (c : Int) : wantV x none none c = x := by unfold wantV contr addV subV; cases x; simp
theorem live_mid (A B : List Mc) (m : Mc) (c : Int) : liveP (A ++ m :: B) c false = addV (contr (some m) c) (liveP (A ++ B) c false) := by
  unfold liveP
  rw [sumV_perm (List.perm_middle.filter _), List.filter_cons]
  by_cases h : m.st = 0 ∧ m.cell = c
  · have hs : selM c false m = true := by unfold selM; simp [h.1, h.2]
    rw [if_pos hs, sumV_cons]
    unfold contr
    simp only
    rw [if_pos h]
  · have hs : selM c false m = false := by
      unfold selM
      cases h1 : (m.cell == c) <;> cases h2 : (m.st == 0) <;> simp_all
    rw [if_neg (by rw [hs]; decide)]
    unfold contr
    simp only
    rw [if_neg h, zero_addV]
/-- A deed. -/
def deedP (P : List Mc) (x : PkAD) : List Mc × Nat := if x.kind = 3 then dropP P x.id else if x.kind = 4 then setP P x.id x.n else addP P x.id x.n x.v
theorem deed_le (P : List Mc) (x : PkAD) : (deedP P x).2 ≤ 14 := by
  unfold deedP dropP setP addP
  (repeat' split) <;> simp
theorem deed_err (P : List Mc) (x : PkAD) (h : (deedP P x).2 ≠ 0) : (deedP P x).1 = P := by
  unfold deedP at h ⊢
  split at h
  · rename_i hk
    rw [if_pos hk]
    unfold dropP at h ⊢
    split at h
    · exact absurd rfl h
    · rename_i h2; rw [if_neg h2]
  · rename_i hk
    rw [if_neg hk]
    split at h
    · rename_i hk4
      rw [if_pos hk4]
      unfold setP at h ⊢
      split at h
      · rfl
      · split at h
        · rename_i h2; simp only [if_pos h2]
        · split at h
          · rename_i h2 h3; simp only [if_neg h2, if_pos h3]
          · exact absurd rfl h
    · rename_i hk4
      rw [if_neg hk4]
      unfold addP at h ⊢
      split at h
      · rename_i h1; rw [if_pos h1]
      · rename_i h1
        rw [if_neg h1]
        split at h
        · rename_i h2; rw [if_pos h2]
        · rename_i h2
          rw [if_neg h2]
          split at h
          · rename_i h3; rw [if_pos h3]
          · rename_i h3
            rw [if_neg h3]
            split at h
            · rename_i h4; rw [if_pos h4]
            · exact absurd rfl h
theorem mid_at {P : List Mc} (h : P.Pairwise fun x y => x.id < y.id) {id : Int} {m : Mc} (ha : atP P id = some m) : P = P.take (lowI P id) ++ m :: P.drop (lowI P id + 1) := by
  obtain ⟨hl, he⟩ := List.getElem?_eq_some_iff.1 (at_lowI h ha)
  conv => lhs; rw [← List.take_append_drop (lowI P id) P]
  rw [List.drop_eq_getElem_cons hl, he]
theorem v4_arith (S a b : V4) : addV a S = addV (subV (addV b S) b) a := by unfold addV subV; simp only [V4.mk.injEq]; omega
/-- What is live behind a deed. -/
theorem deed_live {P : List Mc} (hG : GP P) (x : PkAD) (h : (deedP P x).2 = 0) (c : Int) : liveP (deedP P x).1 c false = wantV (liveP P c false) (atP P x.id) (atP (deedP P x).1 x.id) c := by
  unfold deedP at h ⊢
  by_cases hk : x.kind = 3
  · rw [if_pos hk] at h ⊢
    unfold dropP at h ⊢
    cases ha : atP P x.id with
    | none => rw [ha] at h; simp at h
    | some m =>
      simp only [Option.isSome_some, if_true]
      rw [← drop_at hG.ord ha, drop_at hG.ord ha, at_drop, if_pos rfl, ← drop_at hG.ord ha]
      conv => rhs; rw [mid_at hG.ord ha]
      rw [live_mid]
      unfold wantV
      rw [show contr none c = ⟨0, 0, 0, 0⟩ from rfl, addV_zero]
      unfold addV subV
      simp only
      generalize liveP (P.take (lowI P x.id) ++ P.drop (lowI P x.id + 1)) c false = S
      cases S
      simp only [V4.mk.injEq]
      omega
  · rw [if_neg hk] at h ⊢
    by_cases hk4 : x.kind = 4
    · rw [if_pos hk4] at h ⊢
      cases ha : atP P x.id with
      | none => unfold setP at h; rw [ha] at h; cases h
      | some m =>
        have hs : setP P x.id x.n = (P.map fun y => if y.id = x.id then { y with st := x.n } else y, 0) := by
          unfold setP at h ⊢
          rw [ha] at h ⊢
          simp only at h ⊢
          split at h
          · cases h
          · rename_i h2
            split at h
            · cases h
            · rename_i h3; rw [if_neg h2, if_neg h3]
        obtain ⟨_, hid⟩ := (at_some hG.ord).1 ha
        rw [hs]
        simp only
        rw [at_set, ha, Option.map_some, if_pos hid, ← set_at hG.ord ha]
        have hl := (List.getElem?_eq_some_iff.1 (at_lowI hG.ord ha)).1
        rw [List.set_eq_take_append_cons_drop, if_pos hl, live_mid]
        conv => rhs; rw [mid_at hG.ord ha]
        rw [live_mid]
        exact v4_arith _ _ _
    · rw [if_neg hk4] at h ⊢
      have hs : addP P x.id x.n x.v = (insP P ⟨x.id, x.n, x.v, 0⟩, 0) ∧ atP P x.id = none := by
        unfold addP at h ⊢
        split at h
        · cases h
        · rename_i h1
          rw [if_neg h1]
          split at h
          · cases h
          · rename_i h2
            rw [if_neg h2]
            split at h
            · cases h
            · rename_i h3
              rw [if_neg h3]
              split at h
              · cases h
              · rename_i h4
                rw [if_neg h4]
                exact ⟨rfl, by cases e : atP P x.id with | none => rfl | some y => rw [e] at h2; exact absurd rfl h2⟩
      rw [hs.1, hs.2]
      simp only
      rw [at_ins hG.ord (m := ⟨x.id, x.n, x.v, 0⟩) (at_none.1 hs.2), if_pos rfl, ← ins_at hG.ord (m := ⟨x.id, x.n, x.v, 0⟩) hs.2, live_mid, List.take_append_drop]
      unfold wantV
      rw [show contr none c = ⟨0, 0, 0, 0⟩ from rfl]
      unfold addV subV
      simp only [V4.mk.injEq]
      omega

/-- Five vectors in a block. -/
def WB (w : World) (g : Nat) (f : Nat → V4) : Prop :=
  ∃ cs, w.heap[g]? = some (.cells cs 55 (0, 0)) ∧ cs.size = 20 ∧ ∀ c, c < 5 → cs[c * 4]? = some (.int .i64 (f c).a) ∧ cs[c * 4 + 1]? = some (.int .i64 (f c).b) ∧ cs[c * 4 + 2]? = some (.int .i64 (f c).c) ∧ cs[c * 4 + 3]? = some (.int .i64 (f c).d)
theorem WB.lt {w : World} {g : Nat} {f : Nat → V4} (h : WB w g f) : g < w.heap.size := by obtain ⟨cs, h1, _⟩ := h; exact lt_of_row h1
theorem WB.row {w w' : World} {g : Nat} {f : Nat → V4} (h : WB w g f) (hs : w'.heap[g]? = w.heap[g]?) : WB w' g f := by obtain ⟨cs, h1, h2⟩ := h; exact ⟨cs, hs.trans h1, h2⟩
theorem WB.on {w w' : World} {g : Nat} {f : Nat → V4} (hb : Below w.heap.size w w') (h : WB w g f) : WB w' g f := h.row (hb.block g h.lt)
theorem WB.cells {w : World} {g : Nat} {f : Nat → V4} (h : WB w g f) {c : Nat} (hc : c < 5) : w.cell? ⟨g, c * 4, none⟩ = some (.int .i64 (f c).a) ∧ w.cell? ⟨g, c * 4 + 1, none⟩ = some (.int .i64 (f c).b) ∧ w.cell? ⟨g, c * 4 + 2, none⟩ = some (.int .i64 (f c).c) ∧ w.cell? ⟨g, c * 4 + 3, none⟩ = some (.int .i64 (f c).d) ∧ (∀ j, w.frozen? ⟨g, j, none⟩ = false) := by
  obtain ⟨cs, h1, _, h2⟩ := h
  obtain ⟨a, b, d, e⟩ := h2 c hc
  exact ⟨(cell_of_heap h1 _).trans a, (cell_of_heap h1 _).trans b, (cell_of_heap h1 _).trans d, (cell_of_heap h1 _).trans e, fun j => frozen_of_heap h1 j⟩
theorem WB.new (w : World) : WB (w.alloc (.cells (Array.replicate 20 (.int .i64 0)) 55)) w.heap.size fun _ => ⟨0, 0, 0, 0⟩ :=
  ⟨_, heap_alloc_new w _, by simp, fun c hc => by
    refine ⟨?_, ?_, ?_, ?_⟩ <;> (rw [Array.getElem?_replicate, if_pos (by omega)])⟩
theorem WB.set {w : World} {g : Nat} {f : Nat → V4} (h : WB w g f) {c : Nat} (hc : c < 5) (x : V4) :
    WB ((((w.setCell ⟨g, c * 4, none⟩ (.int .i64 x.a)).setCell ⟨g, c * 4 + 1, none⟩ (.int .i64 x.b)).setCell ⟨g, c * 4 + 2, none⟩ (.int .i64 x.c)).setCell ⟨g, c * 4 + 3, none⟩ (.int .i64 x.d)) g fun j => if j = c then x else f j := by
  obtain ⟨cs, h1, h2, h3⟩ := h
  refine ⟨_, heap_setCell_same _ _ _ _ _ _ (heap_setCell_same _ _ _ _ _ _ (heap_setCell_same _ _ _ _ _ _ (heap_setCell_same _ _ _ _ _ _ h1))), by simpa using h2, fun d hd => ?_⟩
  by_cases e : d = c
  · subst e
    simp only [if_true]
    refine ⟨?_, ?_, ?_, ?_⟩
    · rw [Array.getElem?_setIfInBounds_ne (by omega), Array.getElem?_setIfInBounds_ne (by omega), Array.getElem?_setIfInBounds_ne (by omega), Array.getElem?_setIfInBounds_self_of_lt (by omega)]
    · rw [Array.getElem?_setIfInBounds_ne (by omega), Array.getElem?_setIfInBounds_ne (by omega), Array.getElem?_setIfInBounds_self_of_lt (by simp; omega)]
    · rw [Array.getElem?_setIfInBounds_ne (by omega), Array.getElem?_setIfInBounds_self_of_lt (by simp; omega)]
    · rw [Array.getElem?_setIfInBounds_self_of_lt (by simp; omega)]
  · simp only [if_neg e]
    obtain ⟨a, b, p, q⟩ := h3 d hd
    refine ⟨?_, ?_, ?_, ?_⟩ <;> (rw [Array.getElem?_setIfInBounds_ne (by omega), Array.getElem?_setIfInBounds_ne (by omega), Array.getElem?_setIfInBounds_ne (by omega), Array.getElem?_setIfInBounds_ne (by omega)]; assumption)
end Go.Proofs.YtaenpajmgenjhaaDoor
