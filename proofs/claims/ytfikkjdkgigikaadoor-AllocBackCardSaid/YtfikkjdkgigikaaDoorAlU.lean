/- AllocBack, told plainly: what the book has behind some tasks, behind one that goes, and behind its coming again. No conditions. -/
import Derived.Test.YtfikkjdkgigikaaDoorAlN
namespace Go.Proofs.YtfikkjdkgigikaaDoor
open Go Go.RowKit Go.Maps Go.Sort

def upB : Int → Bool := fun k => if k = 0 then true else false
def setB : SetA := ⟨9, 1, ⟨1000, 1000, 1000, 1000⟩, upB⟩
def taskB (m : Nat → Int) (j : Nat) : InA := ⟨⟨1, (j : Int)⟩, 9, 0, ⟨m j, 1, 0, 0⟩⟩
def gB (m : Nat → Int) (i : Nat) : AG := ⟨[setB], (List.range i).map (taskB m)⟩
theorem openB : openA ⟨[], []⟩ 9 1 ⟨1000, 1000, 1000, 1000⟩ = (⟨[⟨9, 1, ⟨1000, 1000, 1000, 1000⟩, fun _ => false⟩], []⟩, 0) := by rfl
theorem raiseB (m : Nat → Int) : turnA ⟨[⟨9, 1, ⟨1000, 1000, 1000, 1000⟩, fun _ => false⟩], []⟩ 9 0 true = (gB m 0, 0) := by rfl
theorem setA_B (L : List InA) : setA ⟨[setB], L⟩ 9 = some setB := rfl
theorem inE_B (m : Nat → Int) (j : Nat) : inE 9 0 (taskB m j) = true := rfl
theorem filterB (m : Nat → Int) (L : List Nat) : (L.map (taskB m)).filter (inE 9 0) = L.map (taskB m) := List.filter_eq_self.2 fun x hx => by obtain ⟨j, _, rfl⟩ := List.mem_map.1 hx; rfl
theorem needB (m : Nat → Int) (hm : ∀ j, 0 ≤ m j ∧ m j < 50) (L : List Nat) : 0 ≤ needN 0 (L.map (taskB m)) ∧ needN 0 (L.map (taskB m)) ≤ 49 * L.length ∧ needN 1 (L.map (taskB m)) = L.length ∧ needN 2 (L.map (taskB m)) = 0 ∧ needN 3 (L.map (taskB m)) = 0 := by
  induction L with
  | nil => simp [needN]
  | cons j L ih =>
    have h := hm j
    rw [List.map_cons, needN_cons, needN_cons, needN_cons, needN_cons, List.length_cons]
    simp only [taskB, comp] at ih ⊢
    omega
theorem needB_big (m : Nat → Int) (r : Nat) (L : List Nat) : needN (r + 3) (L.map (taskB m)) = needN 3 (L.map (taskB m)) := by
  unfold needN
  congr 1
theorem leftB (m : Nat → Int) (L : List Nat) (r : Nat) : comp r (leftA ⟨[setB], L.map (taskB m)⟩ setB 0) = 1000 - needN r (L.map (taskB m)) := by
  rw [comp_left]
  show _ - needN r ((L.map (taskB m)).filter (inE 9 0)) = _
  rw [filterB]
  congr 1
  rcases r with _ | _ | _ | r <;> rfl
theorem fitB (m : Nat → Int) (hm : ∀ j, 0 ≤ m j ∧ m j < 50) (L : List Nat) (hl : L.length < 20) (j : Nat) : fitsV ⟨m j, 1, 0, 0⟩ (leftA ⟨[setB], L.map (taskB m)⟩ setB 0) = true := fits_comp.2 fun r => by
  obtain ⟨h0, h1, h2, h3, h4⟩ := needB m hm L
  have h := hm j
  rw [leftB]
  rcases r with _ | _ | _ | r
  · show m j ≤ 1000 - needN 0 _; omega
  · show (1 : Int) ≤ 1000 - needN 1 _; omega
  · show (0 : Int) ≤ 1000 - needN 2 _; omega
  · show (0 : Int) ≤ 1000 - needN (r + 3) _; rw [needB_big]; omega
theorem goodB {m : Nat → Int} (hm : ∀ j, 0 ≤ m j ∧ m j < 50) (j : Nat) : goodV ⟨m j, 1, 0, 0⟩ = true := by
  have := hm j
  rw [good_iff]; simp only; omega
theorem tkB_none (m : Nat → Int) (L : List Nat) (j : Nat) (h : ∀ i ∈ L, i ≠ j) : tkA ⟨[setB], L.map (taskB m)⟩ ⟨1, (j : Int)⟩ = none := tk_none.2 fun x hx e => by
  obtain ⟨i, hi, rfl⟩ := List.mem_map.1 hx
  have := congrArg Tk.ix e
  simp only [taskB] at this
  exact h i hi (by omega)
theorem putB_any {m : Nat → Int} (hm : ∀ j, 0 ≤ m j ∧ m j < 50) (L : List Nat) (hl : L.length < 20) (j : Nat) (h : ∀ i ∈ L, i ≠ j) : putA ⟨[setB], L.map (taskB m)⟩ ⟨1, (j : Int)⟩ 9 0 ⟨m j, 1, 0, 0⟩ = (⟨[setB], (L ++ [j]).map (taskB m)⟩, 0) := by
  unfold putA
  rw [setA_B]
  simp only
  rw [if_neg (by rw [goodB hm]; simp [setB]), if_neg (by simp [setB, upB]), if_neg (by rw [tkB_none m L j h]; simp), if_neg (by rw [fitB m hm L hl j]; simp), List.map_append]
  rfl
theorem putB {m : Nat → Int} (hm : ∀ j, 0 ≤ m j ∧ m j < 50) {i : Nat} (hi : i < 20) : putA (gB m i) ⟨1, (i : Int)⟩ 9 0 ⟨m i, 1, 0, 0⟩ = (gB m (i + 1), 0) := by
  have := putB_any hm (List.range i) (by simpa using hi) i (fun j hj => by have := List.mem_range.1 hj; omega)
  unfold gB
  rw [this, List.range_succ]
theorem lenB (m : Nat → Int) (i : Nat) : (gB m i).tasks.length = i := by simp [gB]
/-- The tasks but the one at k. -/
def lessB (n k : Nat) : List Nat := (List.range n).filter fun j => !decide (j = k)
theorem takeB (m : Nat → Int) {n k : Nat} (hk : k < n) : takeA (gB m n) ⟨1, (k : Int)⟩ = (⟨[setB], (lessB n k).map (taskB m)⟩, 0) := by
  have hs : (tkA (gB m n) ⟨1, (k : Int)⟩).isSome = true := by
    cases e : tkA (gB m n) ⟨1, (k : Int)⟩ with
    | some x => rfl
    | none => exact absurd rfl (tk_none.1 e (taskB m k) (List.mem_map.2 ⟨k, List.mem_range.2 hk, rfl⟩))
  unfold takeA
  rw [if_neg (by rw [hs]; simp)]
  unfold takeG gB lessB
  rw [List.filter_map]
  congr 3
  refine List.filter_congr fun j _ => ?_
  simp only [Function.comp, taskB]
  congr 1
  by_cases h : j = k
  · subst h; simp
  · have : ¬ (⟨1, (j : Int)⟩ : Tk) = ⟨1, (k : Int)⟩ := fun e => h (by have := congrArg Tk.ix e; simp only at this; omega)
    simp [h, this]
theorem lessB_perm {n k : Nat} (hk : k < n) : (lessB n k ++ [k]).Perm (List.range n) := by
  refine (List.perm_ext_iff_of_nodup ?_ List.nodup_range).2 fun j => ?_
  · refine List.nodup_append.2 ⟨List.nodup_range.filter _, by simp, fun a ha b hb e => ?_⟩
    have := (List.mem_filter.1 ha).2
    simp at hb
    simp [e, hb] at this
  · unfold lessB
    simp only [List.mem_append, List.mem_filter, List.mem_range, List.mem_singleton]
    by_cases h : j = k
    · subst h; simp [hk]
    · simp [h]
theorem lessB_len {n k : Nat} (hk : k < n) : (lessB n k).length = n - 1 := by
  have := (lessB_perm hk).length_eq
  simp at this; omega
theorem lessB_ne (n k : Nat) : ∀ i ∈ lessB n k, i ≠ k := fun i hi => by
  have := (List.mem_filter.1 hi).2
  simpa using this
theorem needN_perm (r : Nat) {L M : List InA} (h : L.Perm M) : needN r L = needN r M := perm_sumI (h.map _)
theorem spotsB (m : Nat → Int) (L : List Nat) : spotsOf ⟨[setB], L.map (taskB m)⟩ 9 = [⟨0, leftA ⟨[setB], L.map (taskB m)⟩ setB 0⟩] := by
  unfold spotsOf
  rw [setA_B]
  simp [spotsA, setB, upB, List.range_succ]
theorem leftB_perm (m : Nat → Int) {L M : List Nat} (h : L.Perm M) : leftA ⟨[setB], L.map (taskB m)⟩ setB 0 = leftA ⟨[setB], M.map (taskB m)⟩ setB 0 := comp_ext fun r => by
  rw [leftB, leftB, needN_perm r (h.map _)]
theorem leftB_less (m : Nat → Int) {n k : Nat} (hk : k < n) : leftA ⟨[setB], (lessB n k).map (taskB m)⟩ setB 0 = pv (leftA (gB m n) setB 0) ⟨m k, 1, 0, 0⟩ := comp_ext fun r => by
  have h := needN_perm r ((lessB_perm hk).map (taskB m))
  rw [List.map_append, needN_app] at h
  rw [comp_pv, leftB]
  show _ = comp r (leftA ⟨[setB], (List.range n).map (taskB m)⟩ setB 0) + _
  rw [leftB, ← h]
  have : needN r ([k].map (taskB m)) = comp r ⟨m k, 1, 0, 0⟩ := by rw [List.map_cons, List.map_nil, needN_cons, needN_nil]; show comp r ⟨m k, 1, 0, 0⟩ + 0 = _; omega
  omega
theorem insideB (m : Nat → Int) {L : List Nat} {n : Nat} (h : L.Perm (List.range n)) : insideA ⟨[setB], L.map (taskB m)⟩ 9 0 = (List.range n).map fun j => ⟨1, (j : Int)⟩ := by
  unfold insideA
  rw [filterB, List.map_map]
  refine sort_unique ((sortT_spec _).1.trans ?_) (sortT_spec _).2 ?_
  · exact h.map _
  · refine List.pairwise_map.2 ((List.pairwise_lt_range).imp fun {a b} hab => ?_)
    unfold lessT; simp only; omega
theorem insideB_len (m : Nat → Int) (L : List Nat) : (insideA ⟨[setB], L.map (taskB m)⟩ 9 0).length = L.length := by
  unfold insideA
  rw [sortT_len, filterB, List.length_map, List.length_map]
theorem leftB_bd (m : Nat → Int) (hm : ∀ j, 0 ≤ m j ∧ m j < 50) {n : Nat} (hn : n ≤ 20) : 0 ≤ (leftA (gB m n) setB 0).a ∧ (leftA (gB m n) setB 0).a ≤ 1000 ∧ 0 ≤ (leftA (gB m n) setB 0).b ∧ (leftA (gB m n) setB 0).b ≤ 1000 := by
  have h0 := leftB m (List.range n) 0
  have h1 := leftB m (List.range n) 1
  obtain ⟨k0, k1, k2, _, _⟩ := needB m hm (List.range n)
  rw [List.length_range] at k1 k2
  simp only [comp] at h0 h1
  unfold gB
  omega
end Go.Proofs.YtfikkjdkgigikaaDoor
