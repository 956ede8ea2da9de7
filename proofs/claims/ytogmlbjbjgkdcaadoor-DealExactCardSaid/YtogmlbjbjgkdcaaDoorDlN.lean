/- Matching in plain words (stage 14): what an order takes of the list of the other side, and what is left of both sides. No conditions. -/
import Derived.Test.YtogmlbjbjgkdcaaDoorDlM
namespace Go.Proofs.YtogmlbjbjgkdcaaDoor

/-- What an order takes of a list, k lots of it. -/
def takeL (o : Od) : List Od → Nat → List Fl
  | [], _ => []
  | x :: S, k => if k = 0 then [] else if meetO o x then fillO o x (min k x.lots.toNat : Nat) :: takeL o S (k - min k x.lots.toNat) else []
/-- What is left of the list. -/
def restL (o : Od) : List Od → Nat → List Od
  | [], _ => []
  | x :: S, k => if k = 0 then x :: S else if meetO o x then (if k < x.lots.toNat then { x with lots := x.lots - (k : Int) } :: S else restL o S (k - x.lots.toNat)) else x :: S
/-- How many lots are left of the order. -/
def leftL (o : Od) : List Od → Nat → Nat
  | [], k => k
  | x :: S, k => if k = 0 then 0 else if meetO o x then leftL o S (k - min k x.lots.toNat) else k

theorem rem_perm {L : List Od} {p : Nat} {x : Od} (h : L[p]? = some x) : L.Perm (x :: (L.take p ++ L.drop (p + 1))) := by
  obtain ⟨hl, rfl⟩ := List.getElem?_eq_some_iff.1 h
  have e : L = L.take p ++ L[p] :: L.drop (p + 1) := by rw [List.getElem_cons_drop, List.take_append_drop]
  conv => lhs; rw [e]
  exact List.perm_middle
/-- The list of its side when the best order is gone. -/
theorem list_gone {b : RB} {p : Nat} {x : Od} (h : CutO b p x) {sell : Bool} {L : List Od} (hs : x.sell = sell) (hl : listR13 b.L sell = x :: L) : listR13 (bkC b p x 0).L sell = L := by
  have e : (bkC b p x 0).L = b.L.take p ++ b.L.drop (p + 1) := by unfold bkC; rw [if_pos rfl]
  obtain ⟨h1, h2⟩ := listR13_is h.gb.seq sell
  rw [hl] at h1 h2
  rw [e]
  refine (list_eq13 (h.gb.seq.sublist sub_of) (List.pairwise_cons.1 h1).2 ?_).symm
  have h3 := (rem_perm h.place).filter (fun z : Od => z.sell == sell)
  rw [List.filter_cons_of_pos (by simpa using hs)] at h3
  exact (List.perm_cons x).1 (h2.trans h3)
/-- The list of the other side when an order is gone. -/
theorem list_gone_other {b : RB} {p : Nat} {x : Od} (h : CutO b p x) {sell : Bool} (hs : x.sell ≠ sell) : listR13 (bkC b p x 0).L sell = listR13 b.L sell := by
  have e : (bkC b p x 0).L = b.L.take p ++ b.L.drop (p + 1) := by unfold bkC; rw [if_pos rfl]
  obtain ⟨h1, h2⟩ := listR13_is h.gb.seq sell
  rw [e]
  refine (list_eq13 (h.gb.seq.sublist sub_of) h1 ?_).symm
  have h3 := (rem_perm h.place).filter (fun z : Od => z.sell == sell)
  rw [List.filter_cons_of_neg (by simpa using hs)] at h3
  exact h2.trans h3
theorem list_ids {b : RB} (h : GB b) (sell : Bool) : (listR13 b.L sell).Pairwise fun x y => x.id ≠ y.id :=
  ((listR13_is h.seq sell).2.pairwise_iff (fun h e => h e.symm)).2 (h.ids.sublist List.filter_sublist)
theorem map_same {L : List Od} {id n : Int} (h : ∀ z ∈ L, z.id ≠ id) : L.map (atId id n) = L := by
  conv => rhs; rw [← List.map_id L]
  exact List.map_congr_left fun z hz => if_neg (h z hz)
/-- The lists when the best order of a side has n lots left. -/
theorem list_less {b : RB} {p : Nat} {x : Od} (h : CutO b p x) {sell : Bool} {L : List Od} (hl : listR13 b.L sell = x :: L) {n : Int} (hn : n ≠ 0) : listR13 (bkC b p x n).L sell = { x with lots := n } :: L := by
  rw [h.map hn]
  simp only
  have hi := list_ids h.gb sell
  rw [hl] at hi
  rw [list_map h.gb.seq, hl, List.map_cons, map_same fun z hz e => (List.pairwise_cons.1 hi).1 z hz e.symm]
  rw [show atId x.id n x = { x with lots := n } from if_pos rfl]
theorem list_less_other {b : RB} {p : Nat} {x : Od} (h : CutO b p x) {sell : Bool} (hs : x.sell ≠ sell) {n : Int} (hn : n ≠ 0) : listR13 (bkC b p x n).L sell = listR13 b.L sell := by
  rw [h.map hn]
  simp only
  rw [list_map h.gb.seq]
  refine map_same fun z hz e => ?_
  obtain ⟨h1, h2⟩ := List.mem_filter.1 ((listR13_is h.gb.seq sell).2.mem_iff.1 hz)
  obtain ⟨j, hj⟩ := List.getElem?_of_mem h1
  have e1 := pos_of h.gb.ids hj
  have e2 := pos_of h.gb.ids h.place
  rw [e, e2] at e1
  subst e1
  obtain rfl := Option.some.inj (hj.symm.trans h.place)
  exact hs (by simpa using h2)

/-- Order by order, told by the list of the other side. -/
theorem dealO_list (o : Od) : ∀ (f : Nat) (b : RB) (k : Nat), GB b → (listR13 b.L (!o.sell)).length ≤ f →
    (dealO f b o k).2.2 = takeL o (listR13 b.L (!o.sell)) k ∧ (dealO f b o k).2.1 = leftL o (listR13 b.L (!o.sell)) k ∧ listR13 (dealO f b o k).1.L (!o.sell) = restL o (listR13 b.L (!o.sell)) k ∧
    listR13 (dealO f b o k).1.L o.sell = listR13 b.L o.sell ∧ GB (dealO f b o k).1 ∧ (dealO f b o k).1.came = b.came ∧ (dealO f b o k).1.L.length ≤ b.L.length
  | 0, b, k, h, hf => by
    have hl : listR13 b.L (!o.sell) = [] := List.eq_nil_of_length_eq_zero (by omega)
    rw [dealO, hl]
    exact ⟨rfl, rfl, rfl, rfl, h, rfl, Nat.le_refl _⟩
  | f + 1, b, k, h, hf => by
    rw [dealO]
    by_cases hk : k = 0
    · rw [if_pos hk]
      subst hk
      cases hl : listR13 b.L (!o.sell) with
      | nil => exact ⟨rfl, rfl, rfl, rfl, h, rfl, Nat.le_refl _⟩
      | cons x S => exact ⟨by rw [takeL, if_pos rfl], by rw [leftL, if_pos rfl], by rw [restL, if_pos rfl], rfl, h, rfl, Nat.le_refl _⟩
    · rw [if_neg hk]
      cases hl : listR13 b.L (!o.sell) with
      | nil => exact ⟨rfl, rfl, hl, rfl, h, rfl, Nat.le_refl _⟩
      | cons x S =>
        simp only
        rw [takeL, leftL, restL, if_neg hk, if_neg hk, if_neg hk]
        by_cases hm : meetO o x = true
        · rw [if_pos hm, if_pos hm, if_pos hm, if_pos hm]
          obtain ⟨p, hc, hs⟩ := best_place h hl
          have hlots := h.lots x (List.mem_of_getElem? hc.place)
          have hne : x.sell ≠ o.sell := by rw [hs]; cases o.sell <;> decide
          have cm : cutR13 b x.id ((min k x.lots.toNat : Nat) : Int) = (bkC b p x (x.lots - ((min k x.lots.toNat : Nat) : Int)), 0) := by
            have := hc.cut (n := x.lots) (m := ((min k x.lots.toNat : Nat) : Int)) (by omega) (by omega) hlots.2
            rwa [hc.start] at this
          rw [cm]
          simp only
          have hG2 := hc.good (x.lots - ((min k x.lots.toNat : Nat) : Int)) (by omega) (by omega)
          have hlen := hc.size (x.lots - ((min k x.lots.toNat : Nat) : Int))
          have hcame : (bkC b p x (x.lots - ((min k x.lots.toNat : Nat) : Int))).came = b.came := by unfold bkC; split <;> rfl
          by_cases hlt : k < x.lots.toNat
          · have e1 : min k x.lots.toNat = k := by omega
            rw [e1] at hG2 hlen hcame ⊢
            rw [if_pos hlt, Nat.sub_self]
            have hn : x.lots - (k : Int) ≠ 0 := by omega
            have l1 := list_less hc hl hn
            have l2 := list_less_other hc hne hn
            have hb := hlen.1 hn
            have hd : dealO f (bkC b p x (x.lots - (k : Int))) o 0 = (bkC b p x (x.lots - (k : Int)), 0, []) := by cases f <;> simp [dealO]
            rw [hd]
            refine ⟨?_, ?_, l1, l2, hG2, hcame, Nat.le_of_eq hb⟩
            · cases S <;> simp [takeL]
            · cases S <;> simp [leftL]
          · have e1 : min k x.lots.toNat = x.lots.toNat := by omega
            rw [e1] at hG2 hlen hcame ⊢
            rw [if_neg hlt]
            have e2 : x.lots - ((x.lots.toNat : Nat) : Int) = 0 := by omega
            rw [e2] at hG2 hlen hcame ⊢
            have l1 := list_gone hc hs hl
            have l2 := list_gone_other hc hne
            have hb := hlen.2 rfl
            rw [hl] at hf
            obtain ⟨r1, r2, r3, r4, r5, r6, r7⟩ := dealO_list o f (bkC b p x 0) (k - x.lots.toNat) hG2 (by rw [l1]; simpa using hf)
            rw [l1] at r1 r2 r3
            exact ⟨by rw [r1], r2, r3, r4.trans l2, r5, r6.trans hcame, by omega⟩
        · rw [if_neg hm, if_neg hm, if_neg hm, if_neg hm]
          exact ⟨rfl, rfl, hl, rfl, h, rfl, Nat.le_refl _⟩
end Go.Proofs.YtogmlbjbjgkdcaaDoor
