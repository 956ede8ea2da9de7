/- Parks in plain words (stage 15): where a number stands in a list that ascends. No conditions. -/
import Derived.Test.YtaenpajmgenjhaaDoorPkG
import Derived.Test.YtaenpajmgenjhaaDoorSbMc
import Derived.Test.YtaenpajmgenjhaaDoorCmp
namespace Go.Proofs.YtaenpajmgenjhaaDoor

/-- How many precede a number. -/
def lowI (P : List Mc) (id : Int) : Nat := P.countP fun m => decide (m.id < id)
theorem lowI_le (P : List Mc) (id : Int) : lowI P id ≤ P.length := List.countP_le_length
theorem lowI_lt {x : Mc} {P : List Mc} {id : Int} (h : x.id < id) : lowI (x :: P) id = lowI P id + 1 := List.countP_cons_of_pos (by simpa using h)
theorem lowI_ge {P : List Mc} {id : Int} (h : ∀ m ∈ P, id ≤ m.id) : lowI P id = 0 := List.countP_eq_zero.2 fun m hm => by have := h m hm; simpa using this
theorem low_take {P : List Mc} (h : P.Pairwise fun x y => x.id < y.id) (id : Int) : P.take (lowI P id) = P.filter (fun m => decide (m.id < id)) ∧ P.drop (lowI P id) = P.filter (fun m => decide (id ≤ m.id)) := by
  induction P with
  | nil => exact ⟨rfl, rfl⟩
  | cons x P ih =>
    obtain ⟨h1, h2⟩ := List.pairwise_cons.1 h
    by_cases hx : x.id < id
    · obtain ⟨i1, i2⟩ := ih h2
      rw [lowI_lt hx, List.take_succ_cons, List.drop_succ_cons, i1, i2, List.filter_cons_of_pos (by simpa using hx), List.filter_cons_of_neg (by simp; omega)]
      exact ⟨rfl, rfl⟩
    · have hall : ∀ m ∈ x :: P, id ≤ m.id := fun m hm => by
        rcases List.mem_cons.1 hm with rfl | hm
        · omega
        · have := h1 m hm; omega
      rw [lowI_ge hall, List.take_zero, List.drop_zero]
      refine ⟨(List.filter_eq_nil_iff.2 fun m hm => by have := hall m hm; simp; omega).symm, (List.filter_eq_self.2 fun m hm => by simpa using hall m hm).symm⟩
theorem at_lowI {P : List Mc} (h : P.Pairwise fun x y => x.id < y.id) {id : Int} {m : Mc} (ha : atP P id = some m) : P[lowI P id]? = some m := by
  have hd := (low_take h id).2
  obtain ⟨hm, he⟩ := (at_some h).1 ha
  have hne : P.drop (lowI P id) = m :: P.filter (fun x => decide (id < x.id)) := by
    rw [hd]
    clear hd ha
    induction P with
    | nil => cases hm
    | cons x P ih =>
      obtain ⟨h1, h2⟩ := List.pairwise_cons.1 h
      rcases List.mem_cons.1 hm with rfl | hm
      · rw [List.filter_cons_of_pos (by simp; omega), List.filter_cons_of_neg (by simp; omega)]
        congr 1
        refine List.filter_congr fun y hy => ?_
        have := h1 y hy
        rw [decide_eq_true (by omega : id ≤ y.id), decide_eq_true (by omega : id < y.id)]
      · have := h1 m hm
        rw [List.filter_cons_of_neg (by simp; omega), List.filter_cons_of_neg (by simp; omega)]
        exact ih h2 hm
  have := congrArg (fun X => X[0]?) hne
  simpa using this
theorem bsF_at {P : List Mc} (h : P.Pairwise fun x y => x.id < y.id) (id : Int) : bsF (fun m : Mc => cmpI m.id id) P = (atP P id).isSome ∧ bsI (fun m : Mc => cmpI m.id id) P = lowI P id := by
  have e : bsI (fun m : Mc => cmpI m.id id) P = lowI P id := by
    unfold bsI lowI
    congr 1
    funext m
    show decide (cmpI m.id id < 0) = _
    rcases cmpI_cases m.id id with ⟨a, b⟩ | ⟨a, b⟩ | ⟨a, b⟩ <;> rw [b, decide_eq_decide] <;> omega
  refine ⟨?_, e⟩
  unfold bsF
  rw [e]
  cases ha : atP P id with
  | some m =>
    rw [at_lowI h ha]
    obtain ⟨_, rfl⟩ := (at_some h).1 ha
    rcases cmpI_cases m.id m.id with ⟨a, b⟩ | ⟨a, b⟩ | ⟨a, b⟩
    · omega
    · simp [b]
    · omega
  | none =>
    cases hx : P[lowI P id]? with
    | none => rfl
    | some x =>
      have hm := List.mem_of_getElem? hx
      have hne := at_none.1 ha x hm
      rcases cmpI_cases x.id id with ⟨a, b⟩ | ⟨a, b⟩ | ⟨a, b⟩
      · simp [b]
      · exact absurd a hne
      · simp [b]
theorem ins_at {P : List Mc} (h : P.Pairwise fun x y => x.id < y.id) {m : Mc} (ha : atP P m.id = none) : P.take (lowI P m.id) ++ m :: P.drop (lowI P m.id) = insP P m := by
  obtain ⟨h1, h2⟩ := low_take h m.id
  rw [h1, h2]
  unfold insP
  congr 2
  refine List.filter_congr fun x hx => ?_
  have := at_none.1 ha x hx
  rw [decide_eq_decide]; omega
theorem filter_lowP (P : List Mc) (id : Int) : (P.filter (fun m => decide (m.id < id))).filter (fun m => !(m.id == id)) = P.filter (fun m => decide (m.id < id)) := List.filter_eq_self.2 fun m hm => by
  have := (List.mem_filter.1 hm).2
  simp at this ⊢; omega
theorem drop_at {P : List Mc} (h : P.Pairwise fun x y => x.id < y.id) {id : Int} {m : Mc} (ha : atP P id = some m) : P.take (lowI P id) ++ P.drop (lowI P id + 1) = P.filter fun x => !(x.id == id) := by
  have hi := at_lowI h ha
  obtain ⟨hl, he⟩ := List.getElem?_eq_some_iff.1 hi
  have hd : P = P.take (lowI P id) ++ (m :: P.drop (lowI P id + 1)) := by
    conv => lhs; rw [← List.take_append_drop (lowI P id) P]
    rw [List.drop_eq_getElem_cons hl, he]
  obtain ⟨_, hid⟩ := (at_some h).1 ha
  have hnot : ∀ x ∈ P.drop (lowI P id + 1), id < x.id := fun x hx => by
    rw [hd] at h
    have := (List.pairwise_cons.1 (List.pairwise_append.1 h).2.1).1 x hx
    omega
  have hlow : ∀ x ∈ P.take (lowI P id), x.id < id := fun x hx => by
    rw [(low_take h id).1] at hx
    simpa using (List.mem_filter.1 hx).2
  conv => rhs; rw [hd]
  rw [List.filter_append, List.filter_cons_of_neg (by simp [hid])]
  congr 1
  · exact (List.filter_eq_self.2 fun x hx => by have := hlow x hx; simp; omega).symm
  · exact (List.filter_eq_self.2 fun x hx => by have := hnot x hx; simp; omega).symm
theorem map_same {X : List Mc} {f : Mc → Mc} (hf : ∀ x ∈ X, f x = x) : X.map f = X := by
  induction X with
  | nil => rfl
  | cons x X ih => rw [List.map_cons, hf x (List.mem_cons_self ..), ih fun y hy => hf y (List.mem_cons_of_mem _ hy)]
theorem set_at {P : List Mc} (h : P.Pairwise fun x y => x.id < y.id) {id : Int} {m : Mc} (ha : atP P id = some m) (st : Int) : P.set (lowI P id) { m with st := st } = P.map fun x => if x.id = id then { x with st := st } else x := by
  have hi := at_lowI h ha
  obtain ⟨hl, he⟩ := List.getElem?_eq_some_iff.1 hi
  obtain ⟨_, hid⟩ := (at_some h).1 ha
  have hd : P = P.take (lowI P id) ++ (m :: P.drop (lowI P id + 1)) := by
    conv => lhs; rw [← List.take_append_drop (lowI P id) P]
    rw [List.drop_eq_getElem_cons hl, he]
  have hnot : ∀ x ∈ P.drop (lowI P id + 1), id < x.id := fun x hx => by
    rw [hd] at h
    have := (List.pairwise_cons.1 (List.pairwise_append.1 h).2.1).1 x hx
    omega
  have hlow : ∀ x ∈ P.take (lowI P id), x.id < id := fun x hx => by
    rw [(low_take h id).1] at hx
    simpa using (List.mem_filter.1 hx).2
  conv => rhs; rw [hd]
  rw [List.map_append, List.map_cons, if_pos hid, List.set_eq_take_append_cons_drop, if_pos hl]
  rw [map_same (X := P.take (lowI P id)) fun x hx => if_neg (by have := hlow x hx; omega), map_same (X := P.drop (lowI P id + 1)) fun x hx => if_neg (by have := hnot x hx; omega)]
end Go.Proofs.YtaenpajmgenjhaaDoor
