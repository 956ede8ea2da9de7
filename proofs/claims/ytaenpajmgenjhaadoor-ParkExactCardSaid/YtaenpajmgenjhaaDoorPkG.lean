/- The park of stage 15: what a cell's machines have together stays good. -/
import Derived.Test.YtaenpajmgenjhaaDoorPkU
namespace Go.Proofs.YtaenpajmgenjhaaDoor
open Go Go.RowKit

/-- The sum per cell is good. -/
def GS (P : List Mc) : Prop := ∀ c, goodV (liveP P c true) = true
theorem goodV_of {x : V4} (h : goodV x = true) : (0 ≤ x.a ∧ x.a ≤ 1099511627776) ∧ (0 ≤ x.b ∧ x.b ≤ 1099511627776) ∧ (0 ≤ x.c ∧ x.c ≤ 1099511627776) ∧ (0 ≤ x.d ∧ x.d ≤ 1099511627776) := by
  unfold goodV okB at h
  simp only [Bool.and_eq_true, decide_eq_true_eq] at h
  omega
theorem goodV_mk {x : V4} (h : (0 ≤ x.a ∧ x.a ≤ 1099511627776) ∧ (0 ≤ x.b ∧ x.b ≤ 1099511627776) ∧ (0 ≤ x.c ∧ x.c ≤ 1099511627776) ∧ (0 ≤ x.d ∧ x.d ≤ 1099511627776)) : goodV x = true := by
  unfold goodV okB
  simp only [Bool.and_eq_true, decide_eq_true_eq]
  omega
theorem sumV_cons (m : Mc) (P : List Mc) : sumV (m :: P) = addV m.has (sumV P) := by unfold sumV addV; simp
theorem sum_perm {L K : List Int} (h : L.Perm K) : L.sum = K.sum := by
  induction h with
  | nil => rfl
  | cons x _ ih => simp only [List.sum_cons, ih]
  | swap x y l => simp only [List.sum_cons]; omega
  | trans _ _ i j => exact i.trans j
theorem sumV_perm {P Q : List Mc} (h : P.Perm Q) : sumV P = sumV Q := by
  unfold sumV
  rw [sum_perm (h.map _), sum_perm (h.map fun m => m.has.b), sum_perm (h.map fun m => m.has.c), sum_perm (h.map fun m => m.has.d)]
theorem live_ins {P : List Mc} {m : Mc} (hn : ∀ x ∈ P, x.id ≠ m.id) (c : Int) (all : Bool) : liveP (insP P m) c all = if selM c all m then addV m.has (liveP P c all) else liveP P c all := by
  unfold liveP
  rw [sumV_perm ((insP_perm hn).filter _), List.filter_cons]
  split
  · exact sumV_cons _ _
  · rfl
theorem sum_part (P : List Mc) (f : Mc → Int) (h : ∀ m ∈ P, 0 ≤ f m) (p : Mc → Bool) : 0 ≤ ((P.filter p).map f).sum ∧ ((P.filter p).map f).sum ≤ (P.map f).sum := by
  induction P with
  | nil => simp
  | cons m P ih =>
    have hi := ih fun x hx => h x (List.mem_cons_of_mem _ hx)
    have hm := h m (List.mem_cons_self ..)
    rw [List.filter_cons]
    split <;> simp only [List.map_cons, List.sum_cons] <;> omega
theorem GS.part {P : List Mc} (h : GS P) (hg : ∀ m ∈ P, goodV m.has = true) (p : Mc → Bool) : GS (P.filter p) := fun c => by
  have h0 := goodV_of (h c)
  unfold liveP at h0 ⊢
  have e : (P.filter p).filter (selM c true) = (P.filter (selM c true)).filter p := by
    rw [List.filter_filter, List.filter_filter]
    exact List.filter_congr fun x _ => Bool.and_comm _ _
  rw [e]
  generalize hQ : P.filter (selM c true) = Q at h0
  have hq : ∀ m ∈ Q, goodV m.has = true := fun m hm => hg m (by rw [← hQ] at hm; exact (List.mem_filter.1 hm).1)
  have a := sum_part Q (fun m => m.has.a) (fun m hm => (goodV_of (hq m hm)).1.1) p
  have b := sum_part Q (fun m => m.has.b) (fun m hm => (goodV_of (hq m hm)).2.1.1) p
  have d := sum_part Q (fun m => m.has.c) (fun m hm => (goodV_of (hq m hm)).2.2.1.1) p
  have f := sum_part Q (fun m => m.has.d) (fun m hm => (goodV_of (hq m hm)).2.2.2.1) p
  unfold sumV at h0 ⊢
  simp only at h0
  exact goodV_mk (by simp only; omega)
theorem live_set (P : List Mc) (id st c : Int) : liveP (P.map fun x => if x.id = id then { x with st := st } else x) c true = liveP P c true := by
  unfold liveP
  induction P with
  | nil => rfl
  | cons m P ih =>
    rw [List.map_cons, List.filter_cons, List.filter_cons]
    have e : selM c true (if m.id = id then { m with st := st } else m) = selM c true m := by unfold selM; split <;> simp
    rw [e]
    split
    · rw [sumV_cons, sumV_cons, ih]
      congr 1
      split <;> rfl
    · exact ih
theorem GS.nil : GS [] := fun _ => by unfold liveP; rfl
theorem GS.drop {P : List Mc} (h : GS P) (hG : GP P) (id : Int) : GS (dropP P id).1 := by
  unfold dropP
  split
  · exact h.part hG.good _
  · exact h
theorem GS.set {P : List Mc} (h : GS P) (id st : Int) : GS (setP P id st).1 := by
  unfold setP
  split
  · exact h
  · split
    · exact h
    · split
      · exact h
      · exact fun c => by rw [live_set]; exact h c
theorem GS.add {P : List Mc} (h : GS P) (id cell : Int) (has : V4) : GS (addP P id cell has).1 := by
  unfold addP
  split
  · exact h
  · rename_i h1
    split
    · exact h
    · rename_i h2
      split
      · exact h
      · split
        · exact h
        · rename_i h4
          intro c
          have hn : ∀ x ∈ P, x.id ≠ id := by
            cases ha : atP P id with
            | none => exact at_none.1 ha
            | some y => rw [ha] at h2; exact absurd rfl h2
          rw [live_ins (m := ⟨id, cell, has, 0⟩) hn]
          split
          · rename_i h5
            have hc : cell = c := by unfold selM at h5; simpa using h5
            subst hc
            have hgd : goodV has = true := by cases hg : goodV has; exact absurd (.inr (.inr (.inr (.inr hg)))) h1; rfl
            unfold addR at h4
            rw [h cell, hgd] at h4
            have h6 : goodV (addV (liveP P cell true) has) = true := by
              cases hs : goodV (addV (liveP P cell true) has) with
              | true => rfl
              | false => unfold addV at hs; rw [hs] at h4; exact absurd (by simp) h4
            have h7 := goodV_of h6
            unfold addV at h7 ⊢
            simp only at h7
            exact goodV_mk (by simp only; omega)
          · exact h c
/-- With a good sum, the check of the sum is the sum's own goodness. -/
theorem addR_err {P : List Mc} (h : GS P) (cell : Int) {has : V4} (hgd : goodV has = true) : (addR (liveP P cell true) has).2 ≠ 0 ↔ goodV (addV (liveP P cell true) has) = false := by
  unfold addR
  rw [h cell, hgd]
  unfold addV
  cases hs : goodV ⟨(liveP P cell true).a + has.a, (liveP P cell true).b + has.b, (liveP P cell true).c + has.c, (liveP P cell true).d + has.d⟩ <;> simp
end Go.Proofs.YtaenpajmgenjhaaDoor
