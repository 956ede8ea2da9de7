/- Orders and books of orders in plain words (stage 13): the reference's book. No conditions. -/
import Derived.WalkKit
namespace Go.Proofs.YtogmlbjbjgkdcaaDoor
/-- An order. -/
structure Od where
  id : Int
  tn : Int
  sell : Bool
  price : Int
  lots : Int
  seq : Int
deriving DecidableEq
def od0 : Od := ⟨0, 0, false, 0, 0, 0⟩
def goodO (o : Od) : Bool := decide (1 ≤ o.id ∧ o.id ≤ 1073741824) && decide (1 ≤ o.price ∧ o.price ≤ 1000000) && decide (1 ≤ o.lots ∧ o.lots ≤ 1000)
/-- Where one is; the length: there is none. -/
def pos (L : List Od) (id : Int) : Nat := L.findIdx fun x => x.id == id
def posI (L : List Od) (id : Int) : Int := if pos L id < L.length then (pos L id : Int) else -1
theorem pos_le (L : List Od) (id : Int) : pos L id ≤ L.length := List.findIdx_le_length
theorem pos_is {L : List Od} {id : Int} {i : Nat} {x : Od} (hi : L[i]? = some x) (hx : x.id = id) (h : ∀ j y, j < i → L[j]? = some y → y.id ≠ id) : pos L id = i := by
  obtain ⟨hl, rfl⟩ := List.getElem?_eq_some_iff.1 hi
  unfold pos
  rw [List.findIdx_eq hl]
  refine ⟨by simpa using hx, fun j hj => ?_⟩
  have := h j _ hj (List.getElem?_eq_getElem (by omega))
  simpa using this
theorem pos_none {L : List Od} {id : Int} (h : ∀ (j : Nat) (y : Od), L[j]? = some y → y.id ≠ id) : pos L id = L.length := by
  unfold pos
  rw [List.findIdx_eq_length]
  intro x hx
  obtain ⟨j, hj⟩ := List.getElem?_of_mem hx
  simpa using h j x hj
theorem posI_is {L : List Od} {id : Int} {i : Nat} {x : Od} (hi : L[i]? = some x) (hx : x.id = id) (h : ∀ j y, j < i → L[j]? = some y → y.id ≠ id) : posI L id = i := by
  have hl := (List.getElem?_eq_some_iff.1 hi).1
  unfold posI; rw [pos_is hi hx h, if_pos hl]
theorem posI_none {L : List Od} {id : Int} (h : ∀ (j : Nat) (y : Od), L[j]? = some y → y.id ≠ id) : posI L id = -1 := by
  unfold posI; rw [pos_none h, if_neg (by omega)]
theorem posI_cases (L : List Od) (id : Int) : (∃ i x, posI L id = (i : Nat) ∧ pos L id = i ∧ L[i]? = some x ∧ x.id = id) ∨ (posI L id = -1 ∧ pos L id = L.length) := by
  unfold posI
  by_cases h : pos L id < L.length
  · left
    refine ⟨pos L id, L[pos L id], by rw [if_pos h], rfl, List.getElem?_eq_getElem h, ?_⟩
    have := List.findIdx_getElem (p := fun x : Od => x.id == id) (w := h)
    exact beq_iff_eq.1 this
  · right; rw [if_neg h]; exact ⟨rfl, by have := pos_le L id; omega⟩

/-- The reference's book. -/
structure RB where
  L : List Od
  came : Nat
def addR13 (b : RB) (o : Od) : RB × Nat :=
  if goodO o then (if pos b.L o.id < b.L.length then (b, 6) else if 32 ≤ b.L.length then (b, 7) else (⟨b.L ++ [{ o with seq := (b.came : Int) + 1 }], b.came + 1⟩, 0)) else (b, 1)
def dropR13 (b : RB) (id : Int) : RB × Od × Nat :=
  match b.L[pos b.L id]? with
  | none => (b, od0, 5)
  | some x => (⟨b.L.take (pos b.L id) ++ b.L.drop (pos b.L id + 1), b.came⟩, x, 0)
def cutR13 (b : RB) (id lots : Int) : RB × Nat :=
  match b.L[pos b.L id]? with
  | none => (b, 5)
  | some x => if lots < 1 ∨ x.lots < lots then (b, 1) else
      (if x.lots - lots = 0 then (dropR13 ⟨b.L.set (pos b.L id) { x with lots := x.lots - lots }, b.came⟩ id).1 else ⟨b.L.set (pos b.L id) { x with lots := x.lots - lots }, b.came⟩, 0)
/-- Does one count ahead of another one of its side? -/
def aheadO (a b : Od) : Bool := if a.price ≠ b.price then a.sell == decide (a.price < b.price) else decide (a.seq < b.seq)
/-- One goes behind all that count ahead of it. -/
def insO (out : List Od) (x : Od) : List Od := out.takeWhile (aheadO · x) ++ x :: out.dropWhile (aheadO · x)
def listR13 (L : List Od) (sell : Bool) : List Od := (L.filter fun x => x.sell == sell).foldl insO []
theorem listR13_snoc (L : List Od) (sell : Bool) (i : Nat) (x : Od) (h : L[i]? = some x) : listR13 (L.take (i + 1)) sell = if x.sell = sell then insO (listR13 (L.take i) sell) x else listR13 (L.take i) sell := by
  obtain ⟨hl, rfl⟩ := List.getElem?_eq_some_iff.1 h
  unfold listR13
  rw [List.take_succ_eq_append_getElem hl, List.filter_append, List.foldl_append]
  by_cases hs : L[i].sell = sell
  · rw [if_pos hs]; simp [hs]
  · rw [if_neg hs]; simp [hs]
theorem insO_len (out : List Od) (x : Od) : (insO out x).length = out.length + 1 := by
  have := congrArg List.length (List.takeWhile_append_dropWhile (p := (aheadO · x)) (l := out))
  unfold insO; simp only [List.length_append, List.length_cons] at this ⊢; omega
theorem listR13_le (L : List Od) (sell : Bool) : (listR13 L sell).length ≤ L.length := by
  unfold listR13
  have : ∀ (M out : List Od), (M.foldl insO out).length = out.length + M.length := by
    intro M
    induction M with
    | nil => intro out; rfl
    | cons x M ih => intro out; rw [List.foldl_cons, ih, insO_len, List.length_cons]; omega
  rw [this, List.length_nil, Nat.zero_add]
  exact List.length_filter_le _ _
/-- The place of one: behind the leading ones that count ahead of it. -/
theorem insO_at {out : List Od} {x : Od} {k : Nat} (hk : k ≤ out.length) (h1 : ∀ j y, j < k → out[j]? = some y → aheadO y x = true) (h2 : ∀ y, out[k]? = some y → aheadO y x = false) : insO out x = out.take k ++ x :: out.drop k := by
  have : ∀ (out : List Od) (k : Nat), k ≤ out.length → (∀ j y, j < k → out[j]? = some y → aheadO y x = true) → (∀ y, out[k]? = some y → aheadO y x = false) → out.takeWhile (aheadO · x) = out.take k ∧ out.dropWhile (aheadO · x) = out.drop k := by
    intro out
    induction out with
    | nil => intro k _ _ _; simp
    | cons z out ih =>
      intro k hk h1 h2
      cases k with
      | zero =>
        have hz := h2 z rfl
        simp [hz]
      | succ k =>
        have hz := h1 0 z (by omega) rfl
        obtain ⟨e1, e2⟩ := ih k (by simpa using hk) (fun j y hj hy => h1 (j + 1) y (by omega) (by simpa using hy)) (fun y hy => h2 y (by simpa using hy))
        simp [hz, e1, e2]
  obtain ⟨e1, e2⟩ := this out k hk h1 h2
  unfold insO; rw [e1, e2]
end Go.Proofs.YtogmlbjbjgkdcaaDoor
