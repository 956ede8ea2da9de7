/- The reference's list of a side is the one sorted row of that side's orders. No conditions. -/
import Derived.Test.YtogmlbjbjgkdcaaDoorOdM
namespace Go.Proofs.YtogmlbjbjgkdcaaDoor

theorem ahead_trans {a b c : Od} (hab : a.sell = b.sell) (_hbc : b.sell = c.sell) (h1 : aheadO a b = true) (h2 : aheadO b c = true) : aheadO a c = true := by
  unfold aheadO at *
  rw [← hab] at h2
  cases hs : a.sell <;> simp only [hs] at h1 h2 ⊢ <;> (repeat' split at h1) <;> (repeat' split at h2) <;> (repeat' split) <;> simp_all <;> omega
theorem ahead_total {a b : Od} (hs : a.sell = b.sell) (hq : a.seq ≠ b.seq) : aheadO a b = true ∨ aheadO b a = true := by
  unfold aheadO
  by_cases hp : a.price = b.price
  · simp [hp]; omega
  · have hp' : ¬ b.price = a.price := fun e => hp e.symm
    simp only [ne_eq, hp, hp', not_false_eq_true, if_true, ← hs]
    cases a.sell <;> simp <;> omega
theorem ahead_asymm {a b : Od} (hs : a.sell = b.sell) (h : aheadO a b = true) : aheadO b a = false := by
  unfold aheadO at *
  by_cases hp : a.price = b.price
  · simp [hp] at h ⊢; omega
  · have hp' : ¬ b.price = a.price := fun e => hp e.symm
    simp only [ne_eq, hp, hp', not_false_eq_true, if_true, ← hs] at h ⊢
    revert h; cases a.sell <;> simp <;> omega

/-- Orders of one side, no two of which came at the same time. -/
def OneSide (sell : Bool) (L : List Od) : Prop := (∀ x ∈ L, x.sell = sell) ∧ L.Pairwise fun a b => a.seq ≠ b.seq
/-- Each counts ahead of all that are behind it. -/
def SortedO (L : List Od) : Prop := L.Pairwise fun a b => aheadO a b = true

theorem insO_perm (out : List Od) (x : Od) : (insO out x).Perm (x :: out) := by
  unfold insO
  have h := List.perm_middle (a := x) (l₁ := out.takeWhile (aheadO · x)) (l₂ := out.dropWhile (aheadO · x))
  rwa [List.takeWhile_append_dropWhile] at h
theorem takeWhile_all {p : Od → Bool} : ∀ (L : List Od) (y : Od), y ∈ L.takeWhile p → p y = true
  | [], _, h => by simp at h
  | z :: L, y, h => by
    rw [List.takeWhile_cons] at h
    split at h
    · rename_i hz
      rcases List.mem_cons.1 h with rfl | h
      · exact hz
      · exact takeWhile_all L y h
    · simp at h
theorem dropWhile_head {p : Od → Bool} : ∀ (L : List Od) (d : Od) (t : List Od), L.dropWhile p = d :: t → p d = false
  | [], _, _, h => by simp at h
  | z :: L, d, t, h => by
    rw [List.dropWhile_cons] at h
    split at h
    · exact dropWhile_head L d t h
    · rename_i hz
      obtain ⟨rfl, rfl⟩ := List.cons.inj h
      simpa using hz
theorem insO_sorted {sell : Bool} {out : List Od} {x : Od} (ho : ∀ y ∈ out, y.sell = sell) (hx : x.sell = sell) (hd : ∀ y ∈ out, y.seq ≠ x.seq) (hs : SortedO out) : SortedO (insO out x) := by
  unfold insO SortedO at *
  have hsub1 : (out.takeWhile (aheadO · x)).Sublist out := List.takeWhile_sublist _
  have hsub2 : (out.dropWhile (aheadO · x)).Sublist out := List.dropWhile_sublist _
  have hbehind : ∀ y ∈ out.dropWhile (aheadO · x), aheadO x y = true := by
    intro y hy
    cases hdw : out.dropWhile (aheadO · x) with
    | nil => rw [hdw] at hy; simp at hy
    | cons d t =>
      have h1 := dropWhile_head _ _ _ hdw
      have hdm : d ∈ out := hsub2.subset (by rw [hdw]; exact List.mem_cons_self ..)
      have h2 : aheadO x d = true := (ahead_total (by rw [hx, ho d hdm]) (fun e => hd d hdm e.symm)).resolve_right (by rw [h1]; decide)
      rw [hdw] at hy
      rcases List.mem_cons.1 hy with rfl | hy
      · exact h2
      · have hp := hs.sublist hsub2
        rw [hdw] at hp
        have hym : y ∈ out := hsub2.subset (by rw [hdw]; exact List.mem_cons_of_mem _ hy)
        exact ahead_trans (by rw [hx, ho d hdm]) (by rw [ho d hdm, ho y hym]) h2 ((List.pairwise_cons.1 hp).1 y hy)
  rw [List.pairwise_append]
  refine ⟨hs.sublist hsub1, List.pairwise_cons.2 ⟨hbehind, hs.sublist hsub2⟩, fun a ha b hb => ?_⟩
  have hax := takeWhile_all _ _ ha
  have ham := hsub1.subset ha
  rcases List.mem_cons.1 hb with rfl | hb
  · exact hax
  · exact ahead_trans (by rw [ho a ham, hx]) (by rw [hx, ho b (hsub2.subset hb)]) hax (hbehind b hb)
theorem foldl_insO {sell : Bool} : ∀ (M out : List Od), OneSide sell (out ++ M) → SortedO out → SortedO (M.foldl insO out) ∧ (M.foldl insO out).Perm (out ++ M)
  | [], out, _, h => ⟨h, by simp⟩
  | x :: M, out, h, hs => by
    obtain ⟨h1, h2⟩ := h
    have hd : ∀ y ∈ out, y.seq ≠ x.seq := fun y hy => (List.pairwise_append.1 h2).2.2 y hy x (List.mem_cons_self ..)
    have hs' := insO_sorted (fun y hy => h1 y (by simp [hy])) (h1 x (by simp)) hd hs
    have hp := insO_perm out x
    have hp' : (insO out x ++ M).Perm (out ++ x :: M) := (hp.append_right M).trans (by simpa using (List.perm_middle (a := x) (l₁ := out) (l₂ := M)).symm)
    obtain ⟨k1, k2⟩ := foldl_insO M (insO out x) ⟨fun y hy => h1 y (hp'.mem_iff.1 hy), (hp'.pairwise_iff (fun h e => h e.symm)).2 h2⟩ hs'
    exact ⟨k1, k2.trans hp'⟩
/-- The reference's list of a side: sorted, and of just the orders of that side. -/
theorem listR13_is {L : List Od} (hq : L.Pairwise fun a b => a.seq ≠ b.seq) (sell : Bool) : SortedO (listR13 L sell) ∧ (listR13 L sell).Perm (L.filter fun x => x.sell == sell) := by
  have h := foldl_insO (sell := sell) (L.filter fun x => x.sell == sell) [] ⟨fun x hx => by rw [List.nil_append] at hx; simpa using (List.mem_filter.1 hx).2, by rw [List.nil_append]; exact hq.sublist List.filter_sublist⟩ List.Pairwise.nil
  simpa [listR13] using h
/-- Sorted rows of the same orders of one side are the same. -/
theorem sorted_unique {sell : Bool} : ∀ (M N : List Od), (∀ x ∈ M, x.sell = sell) → SortedO M → SortedO N → M.Perm N → M = N
  | [], N, _, _, _, hp => (List.nil_perm.1 hp).symm
  | a :: M, N, ho, hM, hN, hp => by
    cases N with
    | nil => exact absurd hp.length_eq (by simp)
    | cons b N =>
      have hoN : ∀ x ∈ b :: N, x.sell = sell := fun x hx => ho x (hp.mem_iff.2 hx)
      have hab : a = b := by
        rcases List.mem_cons.1 (hp.mem_iff.1 (List.mem_cons_self ..) : a ∈ b :: N) with h | h
        · exact h
        · rcases List.mem_cons.1 (hp.mem_iff.2 (List.mem_cons_self ..) : b ∈ a :: M) with h' | h'
          · exact h'.symm
          · have h1 := (List.pairwise_cons.1 hN).1 a h
            have h2 := (List.pairwise_cons.1 hM).1 b h'
            rw [ahead_asymm (by rw [ho a (List.mem_cons_self ..), hoN b (List.mem_cons_self ..)]) h2] at h1
            cases h1
      subst hab
      rw [sorted_unique M N (fun x hx => ho x (List.mem_cons_of_mem _ hx)) (List.pairwise_cons.1 hM).2 (List.pairwise_cons.1 hN).2 ((List.perm_cons a).1 hp)]
/-- Whatever sorted row of a side's orders a book gives, it is the reference's. -/
theorem list_eq13 {L M : List Od} {sell : Bool} (hq : L.Pairwise fun a b => a.seq ≠ b.seq) (hM : SortedO M) (hp : M.Perm (L.filter fun x => x.sell == sell)) : M = listR13 L sell := by
  obtain ⟨h1, h2⟩ := listR13_is hq sell
  exact sorted_unique (sell := sell) M _ (fun x hx => by simpa using (List.mem_filter.1 (hp.mem_iff.1 hx)).2) hM h1 (hp.trans h2.symm)
end Go.Proofs.YtogmlbjbjgkdcaaDoor
