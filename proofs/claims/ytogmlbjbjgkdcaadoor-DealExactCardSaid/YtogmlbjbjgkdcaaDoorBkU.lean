/- BookCuts' book in plain words: an order that is cut lot by lot. No conditions. -/
import Derived.Test.YtogmlbjbjgkdcaaDoorBkM
namespace Go.Proofs.YtogmlbjbjgkdcaaDoor

/-- The book when the first i are added. -/
def bkA (X : List Od) (i : Nat) : RB := (X.take i).foldl (fun b o => (addR13 b o).1) ⟨[], 0⟩
theorem bkA_snoc {X : List Od} {i : Nat} {o : Od} (h : X[i]? = some o) : bkA X (i + 1) = (addR13 (bkA X i) o).1 := by
  obtain ⟨hl, rfl⟩ := List.getElem?_eq_some_iff.1 h
  unfold bkA
  rw [List.take_succ_eq_append_getElem hl, List.foldl_append]; rfl
theorem adds_gb : ∀ (L : List Od) (b : RB), GB b → GB (L.foldl (fun b o => (addR13 b o).1) b) ∧ (L.foldl (fun b o => (addR13 b o).1) b).came ≤ b.came + L.length
  | [], b, h => ⟨h, Nat.le_refl _⟩
  | o :: L, b, h => by
    obtain ⟨h1, h2⟩ := h.add o
    obtain ⟨h3, h4⟩ := adds_gb L _ h1
    exact ⟨h3, by rw [List.foldl_cons, List.length_cons]; omega⟩
theorem bkA_gb (X : List Od) (i : Nat) : GB (bkA X i) ∧ (bkA X i).came ≤ i := by
  obtain ⟨h1, h2⟩ := adds_gb (X.take i) ⟨[], 0⟩ GB.empty
  exact ⟨h1, by have : (X.take i).length ≤ i := by rw [List.length_take]; omega
                show (bkA X i).came ≤ i; unfold bkA; simp only at h2; omega⟩

/-- The order o, at the place p of the book b, has n lots left. -/
def bkC (b : RB) (p : Nat) (o : Od) (n : Int) : RB := if n = 0 then ⟨b.L.take p ++ b.L.drop (p + 1), b.came⟩ else ⟨b.L.set p { o with lots := n }, b.came⟩
structure CutO (b : RB) (p : Nat) (o : Od) : Prop where
  gb : GB b
  place : b.L[p]? = some o
theorem CutO.map {b : RB} {p : Nat} {o : Od} (h : CutO b p o) {n : Int} (hn : n ≠ 0) : bkC b p o n = ⟨b.L.map (atId o.id n), b.came⟩ := by
  unfold bkC; rw [if_neg hn, set_map n h.gb.ids h.place]
theorem CutO.good {b : RB} {p : Nat} {o : Od} (h : CutO b p o) (n : Int) (h0 : 0 ≤ n) (h1 : n ≤ 1000) : GB (bkC b p o n) := by
  by_cases hn : n = 0
  · subst hn; unfold bkC; rw [if_pos rfl]; exact h.gb.sub sub_of
  · rw [h.map hn]; exact h.gb.map _ _ (by omega) h1
theorem CutO.lt {b : RB} {p : Nat} {o : Od} (h : CutO b p o) : p < b.L.length := (List.getElem?_eq_some_iff.1 h.place).1
theorem CutO.here {b : RB} {p : Nat} {o : Od} (h : CutO b p o) {n : Int} (hn : n ≠ 0) : (bkC b p o n).L[p]? = some { o with lots := n } := by
  unfold bkC; rw [if_neg hn, List.getElem?_set_self h.lt]
theorem CutO.more {b : RB} {p : Nat} {o : Od} (h : CutO b p o) {n : Int} (h1 : 1 ≤ n) (h2 : n ≤ 1000) : cutR13 (bkC b p o n) o.id (n + 1) = (bkC b p o n, 1) := by
  have hc := cut_of (h.good n (by omega) h2) (h.here (by omega)) (n + 1)
  simp only at hc
  rw [if_pos (by omega)] at hc
  exact hc
theorem CutO.cut {b : RB} {p : Nat} {o : Od} (h : CutO b p o) {n m : Int} (h0 : 1 ≤ m) (h1 : m ≤ n) (h2 : n ≤ 1000) : cutR13 (bkC b p o n) o.id m = (bkC b p o (n - m), 0) := by
  have hc := cut_of (h.good n (by omega) h2) (h.here (by omega)) m
  simp only at hc
  rw [if_neg (by omega)] at hc
  by_cases he : n = m
  · rw [if_pos he] at hc
    rw [hc]
    subst he
    have e1 : bkC b p o n = ⟨b.L.set p { o with lots := n }, b.came⟩ := if_neg (by omega)
    have e2 : bkC b p o (n - n) = ⟨b.L.take p ++ b.L.drop (p + 1), b.came⟩ := if_pos (by omega)
    rw [e1, e2]
    simp only
    rw [List.take_set_of_le (Nat.le_refl _), List.drop_set_of_lt (Nat.lt_succ_self _)]
  · rw [if_neg he] at hc
    rw [hc]
    unfold bkC
    rw [if_neg (by omega), if_neg (by omega)]
    simp only [List.set_set]
theorem CutO.start {b : RB} {p : Nat} {o : Od} (h : CutO b p o) : bkC b p o o.lots = b := by
  have := (h.gb.lots o (List.mem_of_getElem? h.place)).1
  unfold bkC
  rw [if_neg (by omega)]
  have e : b.L.set p o = b.L := by
    refine List.ext_getElem? fun j => ?_
    by_cases hj : p = j
    · subst hj; rw [List.getElem?_set_self h.lt, h.place]
    · rw [List.getElem?_set_ne hj]
  show (⟨b.L.set p o, b.came⟩ : RB) = b
  rw [e]
/-- What Of tells of the order that is cut. -/
theorem CutO.self {b : RB} {p : Nat} {o : Od} (h : CutO b p o) {n : Int} (h0 : 0 ≤ n) (h2 : n ≤ 1000) :
    (n ≠ 0 → pos (bkC b p o n).L o.id < (bkC b p o n).L.length ∧ ((bkC b p o n).L[pos (bkC b p o n).L o.id]?).getD od0 = { o with lots := n }) ∧ (n = 0 → ¬ pos (bkC b p o n).L o.id < (bkC b p o n).L.length) := by
  refine ⟨fun hn => ?_, fun hn hc => ?_⟩
  · have hp := pos_of (h.good n h0 h2).ids (h.here hn)
    simp only at hp
    rw [hp, h.here hn]
    exact ⟨(List.getElem?_eq_some_iff.1 (h.here hn)).1, rfl⟩
  · obtain ⟨x, hx, e⟩ := pos_lt.1 hc
    subst hn
    unfold bkC at hx
    rw [if_pos rfl] at hx
    obtain ⟨j, hj⟩ := List.getElem?_of_mem hx
    have hpl := h.lt
    have ho := (List.getElem?_eq_some_iff.1 h.place).2
    simp only at hj
    rw [List.getElem?_append, List.length_take, Nat.min_eq_left (Nat.le_of_lt hpl)] at hj
    split at hj
    · rename_i hjp
      rw [List.getElem?_take_of_lt hjp] at hj
      obtain ⟨hjl, rfl⟩ := List.getElem?_eq_some_iff.1 hj
      exact List.pairwise_iff_getElem.1 h.gb.ids j p hjl hpl hjp (by rw [ho]; exact e)
    · rename_i hjp
      rw [List.getElem?_drop] at hj
      obtain ⟨hjl, rfl⟩ := List.getElem?_eq_some_iff.1 hj
      exact List.pairwise_iff_getElem.1 h.gb.ids p (p + 1 + (j - p)) hpl hjl (by omega) (by rw [ho]; exact e.symm)
/-- The others stay as they are. -/
theorem CutO.other {b : RB} {p : Nat} {o : Od} (h : CutO b p o) {n : Int} (h0 : 0 ≤ n) (h2 : n ≤ 1000) {z : Od} (hz : z ∈ b.L) (hne : z.id ≠ o.id) :
    pos (bkC b p o n).L z.id < (bkC b p o n).L.length ∧ ((bkC b p o n).L[pos (bkC b p o n).L z.id]?).getD od0 = z := by
  have hm : z ∈ (bkC b p o n).L := by
    by_cases hn : n = 0
    · subst hn
      unfold bkC
      rw [if_pos rfl]
      obtain ⟨j, hj⟩ := List.getElem?_of_mem hz
      have hjp : j ≠ p := fun e => by
        subst e
        obtain rfl := Option.some.inj (hj.symm.trans h.place)
        exact hne rfl
      simp only [List.mem_append]
      rcases Nat.lt_or_gt_of_ne hjp with hlt | hlt
      · left
        exact List.mem_of_getElem? (i := j) (by rw [List.getElem?_take_of_lt hlt]; exact hj)
      · right
        exact List.mem_of_getElem? (i := j - (p + 1)) (by rw [List.getElem?_drop, show p + 1 + (j - (p + 1)) = j by omega]; exact hj)
    · rw [h.map hn]
      exact List.mem_map.2 ⟨z, hz, if_neg hne⟩
  obtain ⟨j, hj⟩ := List.getElem?_of_mem hm
  have hp := pos_of (h.good n h0 h2).ids hj
  rw [hp, hj]
  exact ⟨(List.getElem?_eq_some_iff.1 hj).1, rfl⟩
theorem CutO.size {b : RB} {p : Nat} {o : Od} (h : CutO b p o) (n : Int) : (n ≠ 0 → (bkC b p o n).L.length = b.L.length) ∧ (n = 0 → (bkC b p o n).L.length + 1 = b.L.length) := by
  have hpl := h.lt
  refine ⟨fun hn => by unfold bkC; rw [if_neg hn]; simp, fun hn => ?_⟩
  unfold bkC; rw [if_pos hn]
  simp only [List.length_append, List.length_take, List.length_drop]
  omega
end Go.Proofs.YtogmlbjbjgkdcaaDoor
