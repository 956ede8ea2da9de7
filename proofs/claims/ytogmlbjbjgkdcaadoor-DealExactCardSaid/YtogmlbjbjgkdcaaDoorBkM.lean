/- Books in plain words: what deeds keep, what a cut does to the list of a side. No conditions. -/
import Derived.Test.YtogmlbjbjgkdcaaDoorOdP
namespace Go.Proofs.YtogmlbjbjgkdcaaDoor

/-- What holds of every book: at most 32 orders, no two of one number or one time, none later than the last; each has lots. -/
structure GB (b : RB) : Prop where
  len : b.L.length ≤ 32
  seq : b.L.Pairwise fun x y => x.seq ≠ y.seq
  top : ∀ x ∈ b.L, x.seq ≤ (b.came : Int)
  lots : ∀ x ∈ b.L, 1 ≤ x.lots ∧ x.lots ≤ 1000
  ids : b.L.Pairwise fun x y => x.id ≠ y.id
theorem GB.empty : GB ⟨[], 0⟩ := ⟨by simp, List.Pairwise.nil, fun x h => absurd h List.not_mem_nil, fun x h => absurd h List.not_mem_nil, List.Pairwise.nil⟩
theorem pos_lt {L : List Od} {id : Int} : pos L id < L.length ↔ ∃ x ∈ L, x.id = id := by
  unfold pos
  rw [List.findIdx_lt_length]
  simp
theorem GB.add {b : RB} (h : GB b) (o : Od) : GB (addR13 b o).1 ∧ (addR13 b o).1.came ≤ b.came + 1 := by
  unfold addR13
  by_cases hg : goodO o = true
  · rw [if_pos hg]
    by_cases hp : pos b.L o.id < b.L.length
    · rw [if_pos hp]; exact ⟨h, Nat.le_succ _⟩
    · rw [if_neg hp]
      by_cases hf : 32 ≤ b.L.length
      · rw [if_pos hf]; exact ⟨h, Nat.le_succ _⟩
      · rw [if_neg hf]
        simp only [goodO, Bool.and_eq_true, decide_eq_true_eq] at hg
        refine ⟨⟨by simp; omega, ?_, ?_, ?_, ?_⟩, Nat.le_refl _⟩
        · refine List.pairwise_append.2 ⟨h.seq, List.pairwise_singleton _ _, fun x hx y hy => ?_⟩
          obtain rfl := List.mem_singleton.1 hy
          have := h.top x hx
          simp only; omega
        · intro x hx
          rcases List.mem_append.1 hx with hx | hx
          · have := h.top x hx; simp only; omega
          · obtain rfl := List.mem_singleton.1 hx; simp
        · intro x hx
          rcases List.mem_append.1 hx with hx | hx
          · exact h.lots x hx
          · obtain rfl := List.mem_singleton.1 hx; exact hg.2
        · refine List.pairwise_append.2 ⟨h.ids, List.pairwise_singleton _ _, fun x hx y hy => ?_⟩
          obtain rfl := List.mem_singleton.1 hy
          exact fun e => hp (pos_lt.2 ⟨x, hx, e⟩)
  · rw [if_neg hg]; exact ⟨h, Nat.le_succ _⟩
theorem sub_of {L : List Od} {i : Nat} : (L.take i ++ L.drop (i + 1)).Sublist L := by
  have h : (L.drop (i + 1)).Sublist (L.drop i) := by rw [← List.drop_drop]; exact List.drop_sublist _ _
  have := (List.Sublist.refl (L.take i)).append h
  rwa [List.take_append_drop] at this
theorem GB.sub {b : RB} (h : GB b) {L : List Od} (hs : L.Sublist b.L) : GB ⟨L, b.came⟩ :=
  ⟨Nat.le_trans hs.length_le h.len, h.seq.sublist hs, fun x hx => h.top x (hs.subset hx), fun x hx => h.lots x (hs.subset hx), h.ids.sublist hs⟩
theorem GB.drop {b : RB} (h : GB b) (id : Int) : GB (dropR13 b id).1 ∧ (dropR13 b id).1.came = b.came := by
  unfold dropR13
  split
  · exact ⟨h, rfl⟩
  · exact ⟨h.sub sub_of, rfl⟩
/-- One order, told by its number, is changed. -/
def atId (id : Int) (n : Int) (z : Od) : Od := if z.id = id then { z with lots := n } else z
theorem set_map : ∀ {L : List Od} {i : Nat} {y : Od} (n : Int), L.Pairwise (fun x y => x.id ≠ y.id) → L[i]? = some y → L.set i { y with lots := n } = L.map (atId y.id n)
  | [], _, _, _, _, h => by cases h
  | z :: L, 0, y, n, hp, h => by
    cases h
    have hz := (List.pairwise_cons.1 hp).1
    rw [List.set_cons_zero, List.map_cons]
    have e1 : atId z.id n z = { z with lots := n } := if_pos rfl
    have e2 : L.map (atId z.id n) = L := by
      conv => rhs; rw [← List.map_id L]
      refine List.map_congr_left fun a ha => ?_
      unfold atId; rw [if_neg (fun e => hz a ha e.symm)]; rfl
    rw [e1, e2]
  | z :: L, i + 1, y, n, hp, h => by
    have hz := (List.pairwise_cons.1 hp).1
    have hy : y ∈ L := List.mem_of_getElem? (by simpa using h)
    rw [List.set_cons_succ, List.map_cons, set_map n (List.pairwise_cons.1 hp).2 (by simpa using h)]
    have e1 : atId y.id n z = z := if_neg (hz y hy)
    rw [e1]
theorem atId_same (id n : Int) (z : Od) : (atId id n z).id = z.id ∧ (atId id n z).tn = z.tn ∧ (atId id n z).sell = z.sell ∧ (atId id n z).price = z.price ∧ (atId id n z).seq = z.seq := by
  unfold atId; split <;> exact ⟨rfl, rfl, rfl, rfl, rfl⟩
theorem GB.map {b : RB} (h : GB b) (id n : Int) (h1 : 1 ≤ n) (h2 : n ≤ 1000) : GB ⟨b.L.map (atId id n), b.came⟩ where
  len := by rw [List.length_map]; exact h.len
  seq := by rw [List.pairwise_map]; exact h.seq.imp fun {x y} e => by rw [(atId_same id n x).2.2.2.2, (atId_same id n y).2.2.2.2]; exact e
  top := fun x hx => by
    obtain ⟨z, hz, rfl⟩ := List.mem_map.1 hx
    rw [(atId_same id n z).2.2.2.2]; exact h.top z hz
  lots := fun x hx => by
    obtain ⟨z, hz, rfl⟩ := List.mem_map.1 hx
    unfold atId; split
    · exact ⟨h1, h2⟩
    · exact h.lots z hz
  ids := by rw [List.pairwise_map]; exact h.ids.imp fun {x y} e => by rw [(atId_same id n x).1, (atId_same id n y).1]; exact e
theorem pos_of {L : List Od} (hp : L.Pairwise fun x y => x.id ≠ y.id) {i : Nat} {x : Od} (hi : L[i]? = some x) : pos L x.id = i := by
  refine pos_is hi rfl fun j y hj hy e => ?_
  obtain ⟨hil, rfl⟩ := List.getElem?_eq_some_iff.1 hi
  obtain ⟨hjl, rfl⟩ := List.getElem?_eq_some_iff.1 hy
  exact List.pairwise_iff_getElem.1 hp j i hjl hil hj e
theorem drop_of {b : RB} (h : GB b) {i : Nat} {x : Od} (hi : b.L[i]? = some x) : dropR13 b x.id = (⟨b.L.take i ++ b.L.drop (i + 1), b.came⟩, x, 0) := by
  unfold dropR13; rw [pos_of h.ids hi, hi]
/-- What a cut does: the order is changed, or gone. -/
theorem cut_of {b : RB} (h : GB b) {i : Nat} {x : Od} (hi : b.L[i]? = some x) (n : Int) :
    cutR13 b x.id n = if n < 1 ∨ x.lots < n then (b, 1) else if x.lots = n then (⟨b.L.take i ++ b.L.drop (i + 1), b.came⟩, 0) else (⟨b.L.set i { x with lots := x.lots - n }, b.came⟩, 0) := by
  unfold cutR13
  rw [pos_of h.ids hi, hi]
  simp only
  by_cases hn : n < 1 ∨ x.lots < n
  · rw [if_pos hn, if_pos hn]
  · rw [if_neg hn, if_neg hn]
    by_cases he : x.lots = n
    · rw [if_pos (by omega), if_pos he]
      have hp : pos (b.L.set i { x with lots := x.lots - n }) x.id = i := by
        rw [set_map _ h.ids hi]
        have hp2 : (b.L.map (atId x.id (x.lots - n))).Pairwise fun x y => x.id ≠ y.id := by rw [List.pairwise_map]; exact h.ids.imp fun {a c} e => by rw [(atId_same _ _ a).1, (atId_same _ _ c).1]; exact e
        have := pos_of hp2 (i := i) (x := atId x.id (x.lots - n) x) (by rw [List.getElem?_map, hi]; rfl)
        rwa [(atId_same _ _ x).1] at this
      have hil := (List.getElem?_eq_some_iff.1 hi).1
      unfold dropR13
      simp only
      rw [hp, List.getElem?_set_self hil]
      simp only
      rw [List.take_set_of_le (Nat.le_refl _), List.drop_set_of_lt (Nat.lt_succ_self _)]
    · rw [if_neg (by omega), if_neg he]
theorem GB.cut {b : RB} (h : GB b) (id n : Int) : GB (cutR13 b id n).1 ∧ (cutR13 b id n).1.came = b.came := by
  by_cases hp : pos b.L id < b.L.length
  · obtain ⟨x, hx⟩ : ∃ x, b.L[pos b.L id]? = some x := ⟨_, List.getElem?_eq_getElem hp⟩
    have hid : x.id = id := by
      rcases posI_cases b.L id with ⟨j, y, _, h2, h3, h4⟩ | ⟨_, h2⟩
      · rw [h2] at hx; rw [hx] at h3; obtain rfl := Option.some.inj h3; exact h4
      · omega
    have hl := h.lots x (List.mem_of_getElem? hx)
    subst hid
    rw [cut_of h hx]
    split
    · exact ⟨h, rfl⟩
    · split
      · exact ⟨h.sub sub_of, rfl⟩
      · rename_i h1 h2
        rw [set_map _ h.ids hx]
        exact ⟨h.map _ _ (by omega) (by omega), rfl⟩
  · have hd : cutR13 b id n = (b, 5) := by unfold cutR13; rw [List.getElem?_eq_none (by omega)]
    rw [hd]; exact ⟨h, rfl⟩
theorem ahead_map (id n : Int) (x y : Od) : aheadO (atId id n x) (atId id n y) = aheadO x y := by
  obtain ⟨_, _, a3, a4, a5⟩ := atId_same id n x
  obtain ⟨_, _, _, b4, b5⟩ := atId_same id n y
  unfold aheadO
  rw [a3, a4, a5, b4, b5]
/-- A cut changes no place in the list of a side. -/
theorem list_map {L : List Od} (hq : L.Pairwise fun x y => x.seq ≠ y.seq) (id n : Int) (sell : Bool) : listR13 (L.map (atId id n)) sell = (listR13 L sell).map (atId id n) := by
  obtain ⟨h1, h2⟩ := listR13_is hq sell
  have hq2 : (L.map (atId id n)).Pairwise fun x y => x.seq ≠ y.seq := by rw [List.pairwise_map]; exact hq.imp fun {x y} e => by rw [(atId_same id n x).2.2.2.2, (atId_same id n y).2.2.2.2]; exact e
  refine (list_eq13 hq2 (sell := sell) ?_ ?_).symm
  · unfold SortedO
    rw [List.pairwise_map]
    exact h1.imp fun {x y} e => by rw [ahead_map]; exact e
  · have e : (L.map (atId id n)).filter (fun x => x.sell == sell) = (L.filter fun x => x.sell == sell).map (atId id n) := by
      rw [List.filter_map]
      congr 1
      refine List.filter_congr fun x _ => ?_
      simp only [Function.comp_apply, (atId_same id n x).2.2.1]
    rw [e]
    exact h2.map _
/-- The lists of both sides hold the book's orders. -/
theorem sides_perm {L : List Od} (hq : L.Pairwise fun x y => x.seq ≠ y.seq) : (listR13 L true ++ listR13 L false).Perm L := by
  have h1 := (listR13_is hq true).2
  have h2 := (listR13_is hq false).2
  have h3 : (L.filter (fun x => x.sell == true) ++ L.filter (fun x => x.sell == false)).Perm L := by
    have := List.filter_append_perm (fun x : Od => x.sell == true) L
    have e : (L.filter fun x => !(x.sell == true)) = L.filter (fun x => x.sell == false) := List.filter_congr fun x _ => by cases x.sell <;> rfl
    rwa [e] at this
  exact (h1.append h2).trans h3
end Go.Proofs.YtogmlbjbjgkdcaaDoor
