/- Rows that are read only, and what a spot's store makes of a row. No conditions. -/
import Derived.Test.YtlckofoabnnlhaaDoorFtV
import Derived.Test.YtlckofoabnnlhaaDoorRdE
namespace Go.Proofs.YtlckofoabnnlhaaDoor
open Go Go.RowKit

/-- A vector's cells. -/
def encV16 : EncK V4 4 where
  enc x := [.int .i64 x.a, .int .i64 x.b, .int .i64 x.c, .int .i64 x.d]
  len _ := rfl
  one x u hu := by simp at hu; rcases hu with rfl | rfl | rfl | rfl <;> rfl
/-- Behind a store of what is left. -/
theorem own_cut {e : TypeId} {w : World} {base g cap : Nat} {L : List Spt} (h : OwnE encSpt e w base (.slice (some ⟨g, 0, none⟩) L.length cap) L) {i : Nat} {s : Spt} (hi : L[i]? = some s) (y : V4) :
    OwnE encSpt e ((((w.setCell ⟨g, i * 5 + 1, none⟩ (.int .i64 y.a)).setCell ⟨g, i * 5 + 2, none⟩ (.int .i64 y.b)).setCell ⟨g, i * 5 + 3, none⟩ (.int .i64 y.c)).setCell ⟨g, i * 5 + 4, none⟩ (.int .i64 y.d)) base (.slice (some ⟨g, 0, none⟩) L.length cap) (L.set i ⟨s.id, y⟩) := by
  have hl := (List.getElem?_eq_some_iff.1 hi).1
  have a1 := h.stored hi (r := 1) (x' := ⟨s.id, ⟨y.a, s.left.b, s.left.c, s.left.d⟩⟩) (u := .int .i64 y.a) (by omega) rfl
  have a2 := a1.stored (List.getElem?_set_self hl) (r := 2) (x' := ⟨s.id, ⟨y.a, y.b, s.left.c, s.left.d⟩⟩) (u := .int .i64 y.b) (by omega) rfl
  rw [List.set_set] at a2
  have a3 := a2.stored (List.getElem?_set_self hl) (r := 3) (x' := ⟨s.id, ⟨y.a, y.b, y.c, s.left.d⟩⟩) (u := .int .i64 y.c) (by omega) rfl
  rw [List.set_set] at a3
  have a4 := a3.stored (List.getElem?_set_self hl) (r := 4) (x' := ⟨s.id, ⟨y.a, y.b, y.c, y.d⟩⟩) (u := .int .i64 y.d) (by omega) rfl
  rw [List.set_set, List.length_set] at a4
  exact a4
theorem restS_step {m : List Spt} {needs : List V4} {ids : List Int} {i : Nat} {x : V4} {d : Int} (hx : needs[i]? = some x) (hd : ids[i]? = some d) : restS m (needs.drop i) (ids.drop i) = restS (subS d x m) (needs.drop (i + 1)) (ids.drop (i + 1)) := by
  have h1 : needs.drop i = x :: needs.drop (i + 1) := by
    obtain ⟨hl, rfl⟩ := List.getElem?_eq_some_iff.1 hx
    exact List.drop_eq_getElem_cons hl
  have h2 : ids.drop i = d :: ids.drop (i + 1) := by
    obtain ⟨hl, rfl⟩ := List.getElem?_eq_some_iff.1 hd
    exact List.drop_eq_getElem_cons hl
  rw [h1, h2]; rfl
theorem restS_end {m : List Spt} {needs : List V4} {ids : List Int} {i : Nat} (h : needs.length ≤ i ∨ ids.length ≤ i) : restS m (needs.drop i) (ids.drop i) = m := by
  rcases h with h | h
  · rw [List.drop_eq_nil_of_le h]; rfl
  · have h0 : ids.drop i = [] := List.drop_eq_nil_of_le h
    rw [h0]; cases needs.drop i <;> rfl
end Go.Proofs.YtlckofoabnnlhaaDoor
