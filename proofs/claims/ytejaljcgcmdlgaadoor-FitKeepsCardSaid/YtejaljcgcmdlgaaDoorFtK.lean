/- Fit, told plainly, part 3: what is left is what there was, less what is needed. No conditions. -/
import Derived.Test.YtejaljcgcmdlgaaDoorFtL
namespace Go.Proofs.YtejaljcgcmdlgaaDoor
open Go

/-- The amount of a resource. -/
def compV (k : Nat) (v : V4) : Int := match k with | 0 => v.a | 1 => v.b | 2 => v.c | _ => v.d
def totS (k : Nat) (m : List Spt) : Int := (m.map fun s => compV k s.left).sum
def totV (k : Nat) (l : List V4) : Int := (l.map (compV k)).sum
theorem comp_good {v : V4} (h : goodV v = true) (k : Nat) : 0 ≤ compV k v ∧ compV k v ≤ 1099511627776 := by
  have g := (good_iff v).1 h
  unfold compV
  split <;> omega
theorem fit_sub {t : Spt} {x : V4} (h : fitS t x) : remS t x = ⟨t.left.a - x.a, t.left.b - x.b, t.left.c - x.c, t.left.d - x.d⟩ ∧ goodV (remS t x) = true := by
  obtain ⟨h1, h2, h3⟩ := (fitS_iff t x).1 h
  unfold fitS at h
  unfold remS
  rw [sub_yes h1 h2] at h ⊢
  unfold checkR at h ⊢
  split at h
  · rename_i hg
    rw [if_pos hg]
    exact ⟨rfl, hg⟩
  · simp at h
theorem fit_comp {t : Spt} {x : V4} (h : fitS t x) (k : Nat) : compV k (remS t x) = compV k t.left - compV k x ∧ 0 ≤ compV k (remS t x) ∧ 0 ≤ compV k x := by
  obtain ⟨e, g⟩ := fit_sub h
  refine ⟨?_, (comp_good g k).1, (comp_good ((fitS_iff t x).1 h).2.1 k).1⟩
  rw [e]
  unfold compV
  split <;> rfl
theorem tot_set (k : Nat) (s' : Spt) : ∀ (m : List Spt) (a : Nat) (s : Spt), m[a]? = some s → totS k (m.set a s') = totS k m - compV k s.left + compV k s'.left
  | [], _, _, h => by cases h
  | y :: r, 0, s, h => by
    simp only [List.getElem?_cons_zero, Option.some.injEq] at h
    subst h
    simp only [List.set_cons_zero, totS, List.map_cons, List.sum_cons]
    omega
  | y :: r, a + 1, s, h => by
    have ih := tot_set k s' r a s (by simpa using h)
    simp only [List.set_cons_succ, totS, List.map_cons, List.sum_cons] at ih ⊢
    omega
theorem ids_set (y : V4) : ∀ (m : List Spt) (a : Nat) (t : Spt), m[a]? = some t → (m.set a ⟨t.id, y⟩).map Spt.id = m.map Spt.id
  | [], _, _, h => by cases h
  | s :: r, 0, t, h => by
    simp only [List.getElem?_cons_zero, Option.some.injEq] at h
    subst h
    rfl
  | s :: r, a + 1, t, h => by
    rw [List.set_cons_succ, List.map_cons, List.map_cons, ids_set y r a t (by simpa using h)]
/-- With numbers of their own, the first spot of a number is the spot. -/
theorem sub_own {m : List Spt} (hd : (m.map Spt.id).Nodup) {a : Nat} {t : Spt} (h : m[a]? = some t) {x : V4} (hf : fitS t x) : subS t.id x m = m.set a (cutS t x) := by
  refine subS_hit m a h (fun y hy hc => ?_) ⟨rfl, hf⟩
  obtain ⟨j, hj⟩ := List.getElem?_of_mem hy
  rw [List.getElem?_take] at hj
  split at hj
  · rename_i hja
    have ha := (List.getElem?_eq_some_iff.1 h).1
    have h1 : (m.map Spt.id)[j]? = some t.id := by rw [List.getElem?_map, hj, ← hc.1]; rfl
    have h2 : (m.map Spt.id)[a]? = some t.id := by rw [List.getElem?_map, h]; rfl
    have hja' := (List.getElem?_inj (by rw [List.length_map]; omega) hd).1 (h1.trans h2.symm)
    omega
  · cases hj
/-- WHAT IS LEFT. -/
structure Kept (k : Nat) (m r : List Spt) (needs : List V4) : Prop where
  len : r.length = m.length
  each : ∀ (j : Nat) (s : Spt), m[j]? = some s → ∃ s', r[j]? = some s' ∧ 0 ≤ compV k s'.left ∧ compV k s'.left ≤ compV k s.left
  tot : totS k r = totS k m - totV k needs
theorem keepS (k : Nat) : ∀ (needs : List V4) (m : List Spt) (out l : List Int) (i : Nat), (m.map Spt.id).Nodup → (∀ s ∈ m, goodV s.left = true) → allS m needs out i = (out ++ l, -1) → Kept k m (restS m needs l) needs
  | [], m, out, l, i, _, hg, h => by
    have hr : restS m [] l = m := by cases l <;> rfl
    rw [hr]
    exact ⟨rfl, fun j s hs => ⟨s, hs, (comp_good (hg s (List.mem_of_getElem? hs)) k).1, Int.le_refl _⟩, by simp [totV]⟩
  | x :: r, m, out, l, i, hd, hg, h => by
    unfold allS at h
    cases hb : bestS x m with
    | none =>
      rw [hb] at h
      simp only [Prod.mk.injEq] at h
      omega
    | some p =>
      obtain ⟨a, t⟩ := p
      rw [hb] at h
      simp only at h
      have ht := bestS_get hb
      have hf := bestS_fit hb
      obtain ⟨l', rfl⟩ : ∃ l', l = t.id :: l' := by
        rcases allS_cases r (m.set a (cutS t x)) (out ++ [t.id]) (i + 1) with ⟨_, l', h2, _⟩ | ⟨q, h1, _, _⟩
        · rw [h] at h2
          simp only [List.append_assoc, List.cons_append, List.nil_append, List.append_cancel_left_eq] at h2
          exact ⟨l', h2⟩
        · rw [h] at h1
          simp only [Prod.mk.injEq] at h1
          omega
      have hal := (List.getElem?_eq_some_iff.1 ht).1
      have ih := keepS k r (m.set a (cutS t x)) (out ++ [t.id]) l' (i + 1) (by unfold cutS; rw [ids_set _ m a t ht]; exact hd)
        (fun s hs => by
          rcases List.mem_or_eq_of_mem_set hs with hs | hs
          · exact hg s hs
          · rw [hs]; exact (fit_sub hf).2) (by rw [h]; simp)
      have e : restS m (x :: r) (t.id :: l') = restS (m.set a (cutS t x)) r l' := by
        rw [restS, sub_own hd ht hf]
      obtain ⟨c1, c2, c3⟩ := fit_comp hf k
      rw [e]
      refine ⟨by rw [ih.len, List.length_set], fun j s hs => ?_, ?_⟩
      · by_cases hj : j = a
        · subst hj
          rw [hs] at ht
          cases ht
          obtain ⟨s', h1, h2, h3⟩ := ih.each j (cutS t x) (List.getElem?_set_self hal)
          refine ⟨s', h1, h2, ?_⟩
          have : (cutS t x).left = remS t x := rfl
          rw [this] at h3
          omega
        · exact ih.each j s (by rw [List.getElem?_set_ne (Ne.symm hj)]; exact hs)
      · rw [ih.tot, tot_set k (cutS t x) m a t ht]
        have : (cutS t x).left = remS t x := rfl
        rw [this, c1]
        simp only [totV, List.map_cons, List.sum_cons]
        omega
/-- The law's spots: their numbers from 1. -/
def mkS (lefts : List V4) : List Spt := lefts.mapIdx fun i v => ⟨(i : Int) + 1, v⟩
theorem mkS_len (l : List V4) : (mkS l).length = l.length := List.length_mapIdx
theorem mkS_get (l : List V4) (i : Nat) : (mkS l)[i]? = l[i]?.map fun v => ⟨(i : Int) + 1, v⟩ := List.getElem?_mapIdx
theorem mkS_take {l : List V4} {i : Nat} {v : V4} (h : l[i]? = some v) : mkS (l.take (i + 1)) = mkS (l.take i) ++ [⟨(i : Int) + 1, v⟩] := by
  have hi := (List.getElem?_eq_some_iff.1 h).1
  unfold mkS
  rw [List.take_add_one, h, Option.toList_some, List.mapIdx_concat, List.length_take, Nat.min_eq_left (Nat.le_of_lt hi)]
theorem mkS_ids (l : List V4) : ((mkS l).map Spt.id).Nodup := by
  rw [List.Nodup, List.pairwise_iff_getElem]
  intro i j hi hj hij
  simp only [List.getElem_map, mkS, List.getElem_mapIdx]
  omega
theorem mkS_good {l : List V4} (h : ∀ v ∈ l, goodV v = true) : ∀ s ∈ mkS l, goodV s.left = true := fun s hs => by
  obtain ⟨i, hi⟩ := List.getElem?_of_mem hs
  rw [mkS_get] at hi
  cases hv : l[i]? with
  | none => rw [hv] at hi; cases hi
  | some v =>
    rw [hv] at hi
    simp only [Option.map_some, Option.some.injEq] at hi
    subst hi
    exact h v (List.mem_of_getElem? hv)
theorem mkS_tot (k : Nat) (l : List V4) : totS k (mkS l) = totV k l := by
  unfold totS totV mkS
  congr 1
  exact List.ext_getElem? fun i => by rw [List.getElem?_map, List.getElem?_mapIdx, List.getElem?_map]; cases l[i]? <;> rfl
theorem totV_take {k i : Nat} {l : List V4} {v : V4} (h : l[i]? = some v) : totV k (l.take (i + 1)) = totV k (l.take i) + compV k v := by
  unfold totV
  rw [List.take_add_one, h, Option.toList_some, List.map_append, List.sum_append]
  simp
theorem totS_take {k i : Nat} {l : List Spt} {s : Spt} (h : l[i]? = some s) : totS k (l.take (i + 1)) = totS k (l.take i) + compV k s.left := by
  unfold totS
  rw [List.take_add_one, h, Option.toList_some, List.map_append, List.sum_append]
  simp
/-- With more room in one spot the demand still fits somewhere. -/
theorem best_more {m : List Spt} {x : V4} {p : Nat × Spt} (h : bestS x m = some p) {a : Nat} {t : Spt} (ht : m[a]? = some t) {y : V4} (hy : addR t.left ⟨1, 1, 1, 1⟩ = (y, 0)) : (bestS x (m.set a ⟨t.id, y⟩)).isSome = true := by
  cases hb : bestS x (m.set a ⟨t.id, y⟩) with
  | some q => rfl
  | none =>
    exfalso
    have hn := (bestS_none x _ _ rfl).1 hb
    obtain ⟨b, u⟩ := p
    have hu := bestS_get h
    have hf := bestS_fit h
    have hal := (List.getElem?_eq_some_iff.1 ht).1
    by_cases hba : b = a
    · subst hba
      rw [ht] at hu
      cases hu
      refine hn _ (List.mem_of_getElem? (List.getElem?_set_self hal)) ?_
      obtain ⟨h1, h2, h3⟩ := (fitS_iff t x).1 hf
      have g1 := (good_iff _).1 h1
      rw [add_yes h1 (by decide)] at hy
      unfold checkR at hy
      split at hy
      · rename_i hg
        simp only [Prod.mk.injEq, and_true] at hy
        subst hy
        refine (fitS_iff _ x).2 ⟨hg, h2, ?_⟩
        simp [fitsV] at h3 ⊢
        omega
      · simp at hy
    · exact hn u (List.mem_of_getElem? (by rw [List.getElem?_set_ne (Ne.symm hba)]; exact hu)) hf
end Go.Proofs.YtejaljcgcmdlgaaDoor
