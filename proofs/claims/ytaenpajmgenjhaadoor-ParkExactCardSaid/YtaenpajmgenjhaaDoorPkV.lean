/- Parks in plain words (stage 15): what machines have together. No conditions. -/
import Derived.Test.YtaenpajmgenjhaaDoorPkM
namespace Go.Proofs.YtaenpajmgenjhaaDoor

def addV (x y : V4) : V4 := ⟨x.a + y.a, x.b + y.b, x.c + y.c, x.d + y.d⟩
/-- What machines have together. -/
def sumV (P : List Mc) : V4 := ⟨(P.map fun m => m.has.a).sum, (P.map fun m => m.has.b).sum, (P.map fun m => m.has.c).sum, (P.map fun m => m.has.d).sum⟩
theorem sumV_snoc (P : List Mc) (m : Mc) : sumV (P ++ [m]) = addV (sumV P) m.has := by unfold sumV addV; simp
theorem sumV_nil : sumV [] = ⟨0, 0, 0, 0⟩ := rfl
/-- Is it of the cell, and counted? -/
def selM (c : Int) (all : Bool) (m : Mc) : Bool := m.cell == c && (all || m.st == 0)
def liveP (P : List Mc) (c : Int) (all : Bool) : V4 := sumV (P.filter (selM c all))
theorem live_none {P : List Mc} {c : Int} {all : Bool} (h : GP P) (i : Int) (ha : atP P i = none) : liveP (lowP P (i + 1)) c all = liveP (lowP P i) c all := by
  rw [low_succ h.ord, ha]; simp
theorem live_some {P : List Mc} {c : Int} {all : Bool} (h : GP P) (i : Int) {m : Mc} (ha : atP P i = some m) : liveP (lowP P (i + 1)) c all = if selM c all m then addV (liveP (lowP P i) c all) m.has else liveP (lowP P i) c all := by
  rw [low_succ h.ord, ha]
  unfold liveP
  rw [Option.toList_some, List.filter_append]
  cases hs : selM c all m
  · rw [List.filter_cons_of_neg (by simpa using hs)]; simp
  · rw [List.filter_cons_of_pos hs, List.filter_nil, sumV_snoc]; rfl
/-- What a number's slot adds. -/
theorem live_slot {P : List Mc} {c : Int} {all : Bool} (h : GP P) (i : Int) : liveP (lowP P (i + 1)) c all = if ((slotP P i).cell == c && decide (0 < c)) && (all || (slotP P i).st == 0) then addV (liveP (lowP P i) c all) (slotP P i).has else liveP (lowP P i) c all := by
  cases ha : atP P i with
  | none =>
    rw [live_none h i ha, slot_none ha]
    have : (((0 : Int) == c) && decide (0 < c)) = false := by
      by_cases hc : (0 : Int) < c
      · have : ((0 : Int) == c) = false := by simpa using (by omega : ¬ (0 : Int) = c)
        rw [this]; rfl
      · rw [decide_eq_false hc]; simp
    rw [this]
    rfl
  | some m =>
    rw [live_some h i ha, slot_some ha]
    obtain ⟨hm, _⟩ := (at_some h.ord).1 ha
    have hc := h.cells m hm
    unfold selM
    by_cases he : m.cell = c
    · rw [decide_eq_true (by omega : 0 < c), Bool.and_true]
    · have : (m.cell == c) = false := by simpa using he
      rw [this]; rfl
theorem sum_bd {L : List Int} {B : Int} (h : ∀ x ∈ L, 0 ≤ x ∧ x ≤ B) : 0 ≤ L.sum ∧ L.sum ≤ B * (L.length : Int) := by
  induction L with
  | nil => simp
  | cons x L ih =>
    have h1 := h x (List.mem_cons_self ..)
    have h2 := ih fun y hy => h y (List.mem_cons_of_mem _ hy)
    rw [List.sum_cons, List.length_cons]
    have : B * ((L.length + 1 : Nat) : Int) = B * (L.length : Int) + B := by rw [show ((L.length + 1 : Nat) : Int) = (L.length : Int) + 1 by omega, Int.mul_add, Int.mul_one]
    omega
def Bd (x : V4) : Prop := (0 ≤ x.a ∧ x.a ≤ 26388279066624) ∧ (0 ≤ x.b ∧ x.b ≤ 26388279066624) ∧ (0 ≤ x.c ∧ x.c ≤ 26388279066624) ∧ (0 ≤ x.d ∧ x.d ≤ 26388279066624)
theorem sum_le24 {L : List Int} (hl : L.length ≤ 24) (h : ∀ x ∈ L, 0 ≤ x ∧ x ≤ 1099511627776) : 0 ≤ L.sum ∧ L.sum ≤ 26388279066624 := by
  have := sum_bd h
  omega
theorem sumV_bd {P : List Mc} (hl : P.length ≤ 24) (h : ∀ m ∈ P, goodV m.has = true) : Bd (sumV P) := by
  refine ⟨?_, ?_, ?_, ?_⟩
  all_goals
    refine sum_le24 (by rw [List.length_map]; exact hl) fun x hx => ?_
    obtain ⟨m, hm, rfl⟩ := List.mem_map.1 hx
    have := (good_iff m.has).1 (h m hm)
    omega
theorem live_bd {P : List Mc} (h : GP P) (i : Int) (c : Int) (all : Bool) : Bd (liveP (lowP P i) c all) := by
  refine sumV_bd ?_ fun m hm => ?_
  · exact Nat.le_trans (List.length_filter_le _ _) (Nat.le_trans (List.length_filter_le _ _) h.len)
  · exact h.good m (List.mem_filter.1 (List.mem_filter.1 hm).1).1
end Go.Proofs.YtaenpajmgenjhaaDoor
