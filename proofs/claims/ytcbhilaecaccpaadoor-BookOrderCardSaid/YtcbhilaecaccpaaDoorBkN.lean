/- BookOrder's book in plain words: orders of one side at drawn prices. No conditions. -/
import Derived.Test.YtcbhilaecaccpaaDoorBkM
import Derived.Test.YtcbhilaecaccpaaDoorMd
namespace Go.Proofs.YtcbhilaecaccpaaDoor
open Go Go.RowKit

def prO (p : Int) : Int := 1 + wrap64 ((IntKind.u64.wrap p).tmod 20)
theorem prO_is (p : Int) : 1 ≤ prO p ∧ prO p ≤ 20 := by
  obtain ⟨m, hm, e⟩ := mod_pos p 20 (by omega) (by omega)
  have e' : wrap64 ((IntKind.u64.wrap p).tmod 20) = (m : Int) := e
  unfold prO; rw [e']; omega
theorem prO_wrap (p : Int) : wrap64 (1 + wrap64 ((IntKind.u64.wrap p).tmod 20)) = prO p := by
  obtain ⟨m, hm, e⟩ := mod_pos p 20 (by omega) (by omega)
  have e' : wrap64 ((IntKind.u64.wrap p).tmod 20) = (m : Int) := e
  unfold prO; rw [e']; unfold wrap64; omega
def mkO (sell : Bool) (p : Int) (i : Nat) : Od := ⟨(i : Int) + 1, 0, sell, prO p, 5, (i : Int) + 1⟩
def bkL (sell : Bool) (P : List Int) (i : Nat) : List Od := (P.take i).mapIdx fun j p => mkO sell p j
def bkO (sell : Bool) (P : List Int) (i : Nat) : RB := ⟨bkL sell P i, i⟩
theorem bkL_len (sell : Bool) (P : List Int) (i : Nat) (hi : i ≤ P.length) : (bkL sell P i).length = i := by simp [bkL]; omega
theorem bkL_mem {sell : Bool} {P : List Int} {i : Nat} {x : Od} (h : x ∈ bkL sell P i) : ∃ j p, j < i ∧ x = mkO sell p j := by
  obtain ⟨j, hj⟩ := List.getElem?_of_mem h
  unfold bkL at hj
  rw [List.getElem?_mapIdx] at hj
  obtain ⟨p, hp, rfl⟩ := Option.map_eq_some_iff.1 hj
  have := (List.getElem?_eq_some_iff.1 hp).1
  rw [List.length_take] at this
  exact ⟨j, p, by omega, rfl⟩
theorem bkL_snoc (sell : Bool) (P : List Int) (i : Nat) (p : Int) (h : P[i]? = some p) : bkL sell P (i + 1) = bkL sell P i ++ [mkO sell p i] := by
  obtain ⟨hl, rfl⟩ := List.getElem?_eq_some_iff.1 h
  unfold bkL
  rw [List.take_succ_eq_append_getElem hl, List.mapIdx_concat, List.length_take, Nat.min_eq_left (Nat.le_of_lt hl)]
/-- One more is added. -/
theorem bkO_add (sell : Bool) (P : List Int) (i : Nat) (p : Int) (h : P[i]? = some p) (hi : i < 30) : addR13 (bkO sell P i) ⟨(i : Int) + 1, 0, sell, prO p, 5, 0⟩ = (bkO sell P (i + 1), 0) := by
  have hg : goodO ⟨(i : Int) + 1, 0, sell, prO p, 5, 0⟩ = true := by
    have := prO_is p
    simp only [goodO, Bool.and_eq_true, decide_eq_true_eq]
    omega
  have hl := (List.getElem?_eq_some_iff.1 h).1
  have hp : ¬ pos (bkL sell P i) ((i : Int) + 1) < (bkL sell P i).length := fun hc => by
    obtain ⟨x, hx, e⟩ := pos_lt.1 hc
    obtain ⟨j, p', hj, rfl⟩ := bkL_mem hx
    simp only [mkO] at e; omega
  have hlen := bkL_len sell P i (by omega)
  unfold addR13 bkO
  rw [if_pos hg]
  simp only
  rw [if_neg hp, if_neg (by omega), bkL_snoc sell P i p h]
  rfl
theorem bkO_gb (sell : Bool) (P : List Int) : ∀ i, i ≤ P.length → i ≤ 30 → GB (bkO sell P i)
  | 0, _, _ => GB.empty
  | i + 1, h1, h2 => by
    have := ((bkO_gb sell P i (by omega) (by omega)).add ⟨(i : Int) + 1, 0, sell, prO P[i], 5, 0⟩).1
    rwa [bkO_add sell P i _ (List.getElem?_eq_getElem (by omega)) (by omega)] at this
/-- The list of the side. -/
structure OrdL (sell : Bool) (n : Nat) (L M : List Od) : Prop where
  len : M.length = n
  gb : GB ⟨L, n⟩
  perm : M.Perm L
  is : M = listR13 L sell
  sort : SortedO M
  all : ∀ x ∈ M, x.id = x.seq ∧ x.sell = sell ∧ x.lots = 5
theorem ordL (sell : Bool) (P : List Int) (n : Nat) (h1 : n ≤ P.length) (h2 : n ≤ 30) : OrdL sell n (bkL sell P n) (listR13 (bkL sell P n) sell) ∧ listR13 (bkL sell P n) (!sell) = [] := by
  have hG := bkO_gb sell P n h1 h2
  have hall : ∀ x ∈ bkL sell P n, x.sell = sell := fun x hx => by
    obtain ⟨j, p, _, rfl⟩ := bkL_mem hx; rfl
  have hf : (bkL sell P n).filter (fun x => x.sell == sell) = bkL sell P n := List.filter_eq_self.2 fun x hx => by simp [hall x hx]
  obtain ⟨k1, k2⟩ := listR13_is hG.seq sell
  rw [show (bkO sell P n).L = bkL sell P n from rfl] at k1 k2
  rw [hf] at k2
  refine ⟨⟨by rw [k2.length_eq, bkL_len sell P n h1], hG, k2, rfl, k1, fun x hx => ?_⟩, ?_⟩
  · obtain ⟨j, p, _, rfl⟩ := bkL_mem (k2.mem_iff.1 hx)
    exact ⟨rfl, rfl, rfl⟩
  · have k3 := (listR13_is hG.seq (!sell)).2
    rw [show (bkO sell P n).L = bkL sell P n from rfl] at k3
    have : (bkL sell P n).filter (fun x => x.sell == !sell) = [] := List.filter_eq_nil_iff.2 fun x hx => by simp [hall x hx]
    rw [this] at k3
    exact k3.eq_nil
/-- Neighbours in the list. -/
theorem OrdL.next {sell : Bool} {n : Nat} {L M : List Od} (h : OrdL sell n L M) {i : Nat} {x y : Od} (hx : M[i]? = some x) (hy : M[i + 1]? = some y) :
    (x.price = y.price → x.id < y.id) ∧ (sell = true → x.price ≤ y.price) ∧ (sell = false → y.price ≤ x.price) := by
  obtain ⟨hl, rfl⟩ := List.getElem?_eq_some_iff.1 hy
  obtain ⟨hl', rfl⟩ := List.getElem?_eq_some_iff.1 hx
  have ha := List.pairwise_iff_getElem.1 h.sort i (i + 1) hl' hl (Nat.lt_succ_self _)
  obtain ⟨a1, a2, _⟩ := h.all _ (List.getElem_mem hl')
  obtain ⟨b1, b2, _⟩ := h.all _ (List.getElem_mem hl)
  generalize M[i] = x at *
  generalize M[i + 1] = y at *
  unfold aheadO at ha
  rw [a1, b1]
  by_cases hp : x.price = y.price
  · rw [if_neg (fun h => h hp), decide_eq_true_eq] at ha
    exact ⟨fun _ => ha, fun _ => by omega, fun _ => by omega⟩
  · rw [if_pos hp, a2] at ha
    refine ⟨fun e => absurd e hp, fun e => ?_, fun e => ?_⟩
    · subst e; simp at ha; omega
    · subst e; simp at ha; omega
/-- The order of the place k, its book and its list when it is cut by 3. -/
theorem OrdL.cut {sell : Bool} {n : Nat} {L M : List Od} (h : OrdL sell n L M) {k : Nat} {y : Od} (hy : M[k]? = some y) :
    cutR13 ⟨L, n⟩ y.id 3 = (⟨L.map (atId y.id 2), n⟩, 0) ∧ GB ⟨L.map (atId y.id 2), n⟩ ∧ listR13 (L.map (atId y.id 2)) sell = M.map (atId y.id 2) ∧
    (∀ i x, M[i]? = some x → (M.map (atId y.id 2))[i]? = some (if i = k then { x with lots := 2 } else x)) ∧
    (dropR13 ⟨L.map (atId y.id 2), n⟩ y.id).2 = ({ y with lots := 2 }, 0) ∧ GB (dropR13 ⟨L.map (atId y.id 2), n⟩ y.id).1 ∧ (dropR13 ⟨L.map (atId y.id 2), n⟩ y.id).1.L.length + 1 = n := by
  have hym := List.mem_of_getElem? hy
  obtain ⟨i, hi⟩ := List.getElem?_of_mem (h.perm.mem_iff.1 hym)
  obtain ⟨_, _, hlots⟩ := h.all y hym
  have hset : L.set i { y with lots := 2 } = L.map (atId y.id 2) := set_map 2 h.gb.ids hi
  have hc : cutR13 ⟨L, n⟩ y.id 3 = (⟨L.map (atId y.id 2), n⟩, 0) := by
    rw [cut_of h.gb hi, hlots, if_neg (by decide), if_neg (by decide), ← hset]
    rfl
  have hG := h.gb.map y.id 2 (by omega) (by omega)
  have hids : M.Pairwise fun x y => x.id ≠ y.id := (h.perm.pairwise_iff (fun h e => h e.symm)).2 h.gb.ids
  have hiL := (List.getElem?_eq_some_iff.1 hi).1
  have hi2 : (L.map (atId y.id 2))[i]? = some { y with lots := 2 } := by rw [← hset, List.getElem?_set_self hiL]
  have hd := drop_of (b := ⟨L.map (atId y.id 2), n⟩) hG (x := { y with lots := 2 }) hi2
  simp only at hd
  refine ⟨hc, hG, by rw [list_map h.gb.seq, ← h.is], fun j x hj => ?_, by rw [hd], by rw [hd]; exact hG.sub sub_of, ?_⟩
  · rw [List.getElem?_map, hj]
    simp only [Option.map_some, Option.some.injEq]
    by_cases e : j = k
    · subst e
      obtain rfl := Option.some.inj (hj.symm.trans hy)
      rw [if_pos rfl]; exact if_pos rfl
    · rw [if_neg e]
      refine if_neg fun e2 => ?_
      obtain ⟨hjl, rfl⟩ := List.getElem?_eq_some_iff.1 hj
      obtain ⟨hkl, rfl⟩ := List.getElem?_eq_some_iff.1 hy
      rcases Nat.lt_or_gt_of_ne e with hlt | hlt
      · exact List.pairwise_iff_getElem.1 hids j k hjl hkl hlt e2
      · exact List.pairwise_iff_getElem.1 hids k j hkl hjl hlt e2.symm
  · rw [hd]
    have hn : L.length = n := by rw [← h.perm.length_eq, h.len]
    simp only [List.length_append, List.length_take, List.length_drop, List.length_map]
    omega
end Go.Proofs.YtcbhilaecaccpaaDoor
