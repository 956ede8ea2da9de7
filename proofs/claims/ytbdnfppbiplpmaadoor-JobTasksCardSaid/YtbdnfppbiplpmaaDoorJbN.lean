/- Jobs and their tasks, told plainly: what JobTasks counts. No conditions. -/
import Derived.Test.YtbdnfppbiplpmaaDoorJbM
namespace Go.Proofs.YtbdnfppbiplpmaaDoor
open Go

/-- On machines, and at places up to 20. -/
def TI (L : List JE) : Prop := ∀ e ∈ L, e.job.set = 0 ∧ ∀ p ∈ e.pl, p ≤ 20
theorem TI.nil : TI [] := fun _ h => by cases h
theorem TI.drop {L : List JE} (h : TI L) (id : Int) : TI (dropJ L id).1 := by
  unfold dropJ; split
  · exact h
  · exact fun e he => h e (List.mem_filter.1 he).1
theorem TI.setJ {L : List JE} (h : TI L) (id : Int) (k : Nat) {p : Int} (hp : p ≤ 20) : TI (setJ L id k p) := fun e he => by
  unfold Go.Proofs.YtbdnfppbiplpmaaDoor.setJ at he
  obtain ⟨z, hz, rfl⟩ := List.mem_map.1 he
  obtain ⟨h1, h2⟩ := h z hz
  split
  · refine ⟨h1, fun x hx => ?_⟩
    rcases List.mem_or_eq_of_mem_set hx with hx | rfl
    · exact h2 x hx
    · exact hp
  · exact ⟨h1, h2⟩
theorem TI.put {L : List JE} (h : TI L) (t : Tk) {p : Int} (hp : p ≤ 20) : TI (putJ L t p).1 := by
  unfold putJ
  cases findJ L t.job with
  | none => exact h
  | some e => simp only; (repeat' split) <;> first | exact h | exact h.setJ _ _ hp
theorem TI.wait {L : List JE} (h : TI L) (t : Tk) : TI (waitJ L t).1 := by
  unfold waitJ
  cases findJ L t.job with
  | none => exact h
  | some e => simp only; (repeat' split) <;> first | exact h | exact h.setJ _ _ (by omega)
theorem TI.add {L : List JE} (h : TI L) {j : JR} (hj : j.set = 0) : TI (addJ L j).1 := by
  unfold addJ
  (repeat' split) <;> first | exact h | skip
  intro e he
  rcases insJ_mem.1 he with rfl | he
  · exact ⟨hj, fun p hp => by rw [List.eq_of_mem_replicate hp]; omega⟩
  · exact h e he
/-- How many tasks there are. -/
def allT (L : List JE) : Int := (L.map fun e => (e.pl.length : Int)).sum
theorem allT_succ {L : List JE} {i : Nat} {e : JE} (h : L[i]? = some e) : allT (L.take (i + 1)) = allT (L.take i) + (e.pl.length : Int) := by
  unfold allT
  rw [List.take_add_one, h, List.map_append, List.sum_append]
  simp
theorem allT_bd {L : List JE} (h : ∀ e ∈ L, e.pl.length ≤ 8) : 0 ≤ allT L ∧ allT L ≤ 8 * (L.length : Int) := by
  induction L with
  | nil => simp [allT]
  | cons e L ih =>
    have h1 := ih fun y hy => h y (List.mem_cons_of_mem _ hy)
    have h2 := h e (List.mem_cons_self ..)
    unfold allT at h1 ⊢
    rw [List.map_cons, List.sum_cons, List.length_cons]
    omega
/-- How many are at the places below n. -/
def sumP (n : Nat) (L : List JE) : Int := ((List.range n).map fun (p : Nat) => ((tasksJ (selA (p : Int)) L).length : Int)).sum
theorem sumP_zero (L : List JE) : sumP 0 L = 0 := rfl
theorem sumP_succ (n : Nat) (L : List JE) : sumP (n + 1) L = sumP n L + ((tasksJ (selA (n : Int)) L).length : Int) := by
  unfold sumP
  rw [List.range_succ, List.map_append, List.sum_append]
  simp
theorem tasksJ_cons (sel : JE → Int → Bool) (e : JE) (L : List JE) : tasksJ sel (e :: L) = rowT sel e e.pl.length ++ tasksJ sel L := by unfold tasksJ; rw [List.flatMap_cons]
def rowP (n : Nat) (e : JE) (k : Nat) : Int := ((List.range n).map fun (p : Nat) => ((rowT (selA (p : Int)) e k).length : Int)).sum
theorem rowP_succ (n : Nat) (e : JE) (k : Nat) : rowP (n + 1) e k = rowP n e k + ((rowT (selA (n : Int)) e k).length : Int) := by
  unfold rowP
  rw [List.range_succ, List.map_append, List.sum_append]
  simp
theorem sumP_cons (n : Nat) (e : JE) (L : List JE) : sumP n (e :: L) = rowP n e e.pl.length + sumP n L := by
  induction n with
  | zero => simp [sumP, rowP]
  | succ n ih => rw [sumP_succ, sumP_succ, rowP_succ, ih, tasksJ_cons, List.length_append]; omega
theorem rowP_step {e : JE} (hs : e.job.set = 0) (k n : Nat) : rowP n e (k + 1) = rowP n e k + if 0 ≤ plAt e k ∧ plAt e k < (n : Int) then 1 else 0 := by
  induction n with
  | zero =>
    rw [if_neg (by omega)]
    simp [rowP]
  | succ n ih =>
    rw [rowP_succ, rowP_succ, ih, rowT_succ]
    have e1 : selA (n : Int) e (plAt e k) = decide (plAt e k = (n : Int)) := by unfold selA; simp [hs]
    rw [e1]
    by_cases h : plAt e k = (n : Int)
    · rw [decide_eq_true h]
      simp only [if_true, List.length_append, List.length_singleton]
      rw [if_neg (by omega), if_pos (by omega)]
      omega
    · rw [decide_eq_false h]
      simp only [Bool.false_eq_true, if_false]
      by_cases h2 : 0 ≤ plAt e k ∧ plAt e k < (n : Int)
      · rw [if_pos h2, if_pos (by omega)]; omega
      · rw [if_neg h2, if_neg (by omega)]; omega
theorem row_all {e : JE} (hs : e.job.set = 0) (k : Nat) (hp : ∀ j, j < k → -1 ≤ plAt e j ∧ plAt e j ≤ 20) : ((rowT selW e k).length : Int) + rowP 21 e k = (k : Int) := by
  induction k with
  | zero =>
    have : rowP 21 e 0 = 0 := by
      unfold rowP
      simp [rowT_zero]
      first | done | rfl | decide
    rw [this]; rfl
  | succ k ih =>
    have h1 := ih fun j hj => hp j (by omega)
    have h2 := hp k (by omega)
    rw [rowP_step hs, rowT_succ]
    by_cases h : plAt e k = -1
    · have e1 : selW e (plAt e k) = true := by simpa [selW] using h
      rw [e1]
      simp only [if_true, List.length_append, List.length_singleton]
      rw [if_neg (by omega)]
      omega
    · have e1 : selW e (plAt e k) = false := by simpa [selW] using h
      rw [e1]
      simp only [Bool.false_eq_true, if_false]
      rw [if_pos (by omega)]
      omega
/-- Each task waits, or is at one place. -/
theorem tasks_all {L : List JE} (hg : ∀ e ∈ L, ∀ p ∈ e.pl, -1 ≤ p) (h : TI L) : ((tasksJ selW L).length : Int) + sumP 21 L = allT L := by
  induction L with
  | nil => rfl
  | cons e L ih =>
    have h1 := ih (fun y hy => hg y (List.mem_cons_of_mem _ hy)) fun y hy => h y (List.mem_cons_of_mem _ hy)
    obtain ⟨h2, h3⟩ := h e (List.mem_cons_self ..)
    have h4 := row_all h2 e.pl.length fun j hj => by
      have hm : plAt e j ∈ e.pl := List.mem_of_getElem? (plAt_lt hj)
      exact ⟨hg e (List.mem_cons_self ..) _ hm, h3 _ hm⟩
    rw [tasksJ_cons, sumP_cons, List.length_append]
    have h5 : allT (e :: L) = (e.pl.length : Int) + allT L := by unfold allT; rw [List.map_cons, List.sum_cons]
    rw [h5]
    omega
theorem sumP_bd (n : Nat) {L : List JE} (h : ∀ e ∈ L, e.pl.length ≤ 8) : 0 ≤ sumP n L ∧ sumP n L ≤ 8 * (L.length : Int) * (n : Int) := by
  induction n with
  | zero => simp [sumP]
  | succ n ih =>
    have h1 := tasksJ_len (selA (n : Int)) h
    rw [sumP_succ]
    have e1 : 8 * (L.length : Int) * ((n + 1 : Nat) : Int) = 8 * (L.length : Int) * (n : Int) + 8 * (L.length : Int) := by
      rw [Int.natCast_add, Int.mul_add]; simp
    rw [e1]
    omega
end Go.Proofs.YtbdnfppbiplpmaaDoor
