/- Fit, told plainly: what is left of a spot, which spot is best, where many demands go, what remains. No conditions. -/
import Derived.Test.YtlckofoabnnlhaaDoorVecM
namespace Go.Proofs.YtlckofoabnnlhaaDoor
open Go

/-- A spot. -/
structure Spt where
  id : Int
  left : V4
/-- A demand fits in a spot. -/
def fitS (s : Spt) (x : V4) : Prop := (subR s.left x).2 = 0
instance (s : Spt) (x : V4) : Decidable (fitS s x) := inferInstanceAs (Decidable (_ = _))
/-- What is left then. -/
def remS (s : Spt) (x : V4) : V4 := (subR s.left x).1
/-- A spot is better than another one. -/
def betS (x : V4) (s t : Spt) : Bool := lessV (remS s x) (remS t x) || (decide (remS s x = remS t x) && decide (s.id < t.id))
/-- The better of two; the second at place i. -/
def stepS (x : V4) (i : Nat) (s : Spt) : Option (Nat × Spt) → Option (Nat × Spt)
  | none => if fitS s x then some (i, s) else none
  | some (a, t) => if fitS s x then (if betS x s t then some (i, s) else some (a, t)) else some (a, t)
/-- The best of a row's spots, and its place. -/
def bestS (x : V4) (L : List Spt) : Option (Nat × Spt) := L.zipIdx.foldl (fun b p => stepS x p.2 p.1 b) none
theorem bestS_nil (x : V4) : bestS x [] = none := rfl
theorem bestS_snoc (x : V4) (L : List Spt) (s : Spt) : bestS x (L ++ [s]) = stepS x L.length s (bestS x L) := by
  unfold bestS
  rw [List.zipIdx_append, List.foldl_append]
  simp
theorem bestS_take {x : V4} {L : List Spt} {k : Nat} {s : Spt} (h : L[k]? = some s) : bestS x (L.take (k + 1)) = stepS x k s (bestS x (L.take k)) := by
  have hk := (List.getElem?_eq_some_iff.1 h).1
  rw [List.take_add_one, h, Option.toList_some, bestS_snoc, List.length_take, Nat.min_eq_left (Nat.le_of_lt hk)]
/-- What the best spot is. -/
theorem bestS_at (x : V4) : ∀ (n : Nat) (L : List Spt), L.length = n → ∀ a t, bestS x L = some (a, t) → L[a]? = some t ∧ fitS t x
  | 0, L, hL, a, t, h => by rw [List.eq_nil_of_length_eq_zero hL, bestS_nil] at h; cases h
  | n + 1, L, hL, a, t, h => by
    obtain ⟨s, hs⟩ : ∃ s, L[n]? = some s := ⟨_, List.getElem?_eq_getElem (by omega)⟩
    have hl : (L.take n).length = n := by rw [List.length_take]; omega
    have ih := bestS_at x n (L.take n) hl
    rw [show L = L.take (n + 1) from (List.take_of_length_le (by omega)).symm, bestS_take hs] at h
    have up : ∀ a t, (L.take n)[a]? = some t → L[a]? = some t := fun a t h => by
      rw [List.getElem?_take] at h; split at h
      · exact h
      · cases h
    cases hb : bestS x (L.take n) with
    | none =>
      rw [hb] at h
      unfold stepS at h
      simp only at h
      split at h
      · simp only [Option.some.injEq, Prod.mk.injEq] at h
        obtain ⟨rfl, rfl⟩ := h
        exact ⟨hs, by assumption⟩
      · cases h
    | some p =>
      obtain ⟨c, u⟩ := p
      have ihc := ih c u hb
      rw [hb] at h
      unfold stepS at h
      simp only at h
      split at h
      · split at h
        · simp only [Option.some.injEq, Prod.mk.injEq] at h
          obtain ⟨rfl, rfl⟩ := h
          exact ⟨hs, by assumption⟩
        · simp only [Option.some.injEq, Prod.mk.injEq] at h
          obtain ⟨rfl, rfl⟩ := h
          exact ⟨up _ _ ihc.1, ihc.2⟩
      · simp only [Option.some.injEq, Prod.mk.injEq] at h
        obtain ⟨rfl, rfl⟩ := h
        exact ⟨up _ _ ihc.1, ihc.2⟩
theorem bestS_get {x : V4} {L : List Spt} {a : Nat} {t : Spt} (h : bestS x L = some (a, t)) : L[a]? = some t := (bestS_at x _ L rfl a t h).1
theorem bestS_fit {x : V4} {L : List Spt} {a : Nat} {t : Spt} (h : bestS x L = some (a, t)) : fitS t x := (bestS_at x _ L rfl a t h).2
/-- There is no best spot where none fits. -/
theorem bestS_none (x : V4) : ∀ (n : Nat) (L : List Spt), L.length = n → (bestS x L = none ↔ ∀ s ∈ L, ¬ fitS s x)
  | 0, L, hL => by rw [List.eq_nil_of_length_eq_zero hL, bestS_nil]; simp
  | n + 1, L, hL => by
    obtain ⟨s, hs⟩ : ∃ s, L[n]? = some s := ⟨_, List.getElem?_eq_getElem (by omega)⟩
    have hl : (L.take n).length = n := by rw [List.length_take]; omega
    have ih := bestS_none x n (L.take n) hl
    have e : L = L.take n ++ [s] := by
      have := List.take_of_length_le (l := L) (i := n + 1) (by omega)
      rw [List.take_add_one, hs, Option.toList_some] at this
      exact this.symm
    have e2 : bestS x L = stepS x (L.take n).length s (bestS x (L.take n)) := by
      have := bestS_snoc x (L.take n) s
      rwa [← e] at this
    rw [e2]
    constructor
    · intro h y hy
      rw [e] at hy
      cases hb : bestS x (L.take n) with
      | none =>
        rw [hb] at h
        unfold stepS at h
        simp only at h
        split at h
        · cases h
        · rcases List.mem_append.1 hy with k | k
          · exact ih.1 hb y k
          · simp only [List.mem_singleton] at k; subst k; assumption
      | some p =>
        obtain ⟨c, u⟩ := p
        rw [hb] at h
        unfold stepS at h
        simp only at h
        split at h
        · split at h <;> cases h
        · cases h
    · intro h
      rw [ih.2 fun y hy => h y (by rw [e]; exact List.mem_append_left _ hy)]
      unfold stepS
      simp only
      rw [if_neg (h s (by rw [e]; simp))]
/-- A demand is taken out of a spot. -/
def cutS (t : Spt) (x : V4) : Spt := ⟨t.id, remS t x⟩
/-- Where many go. -/
def allS : List Spt → List V4 → List Int → Nat → List Int × Int
  | _, [], out, _ => (out, -1)
  | m, x :: r, out, i => match bestS x m with
    | none => ([], (i : Int))
    | some (a, t) => allS (m.set a (cutS t x)) r (out ++ [t.id]) (i + 1)
/-- A demand is taken out of the first spot of that number in which it fits. -/
def subS (id : Int) (x : V4) : List Spt → List Spt
  | [] => []
  | s :: r => if s.id = id ∧ fitS s x then cutS s x :: r else s :: subS id x r
/-- What remains. -/
def restS : List Spt → List V4 → List Int → List Spt
  | m, x :: r, d :: q => restS (subS d x m) r q
  | m, _, _ => m
theorem subS_len (id : Int) (x : V4) : ∀ m : List Spt, (subS id x m).length = m.length
  | [] => rfl
  | s :: r => by
    unfold subS
    split
    · rfl
    · rw [List.length_cons, subS_len id x r, List.length_cons]
theorem subS_hit {id : Int} {x : V4} : ∀ (m : List Spt) (k : Nat) {s : Spt}, m[k]? = some s → (∀ y ∈ m.take k, ¬ (y.id = id ∧ fitS y x)) → s.id = id ∧ fitS s x → subS id x m = m.set k (cutS s x)
  | [], _, _, h, _, _ => by cases h
  | y :: r, 0, s, h, _, hf => by
    simp only [List.getElem?_cons_zero, Option.some.injEq] at h
    subst h
    unfold subS
    rw [if_pos hf]; rfl
  | y :: r, k + 1, s, h, hn, hf => by
    unfold subS
    rw [if_neg (hn y (by simp)), List.set_cons_succ, subS_hit r k (by simpa using h) (fun z hz => hn z (by rw [List.take_succ_cons]; exact List.mem_cons_of_mem _ hz)) hf]
theorem subS_miss {id : Int} {x : V4} : ∀ (m : List Spt), (∀ y ∈ m, ¬ (y.id = id ∧ fitS y x)) → subS id x m = m
  | [], _ => rfl
  | y :: r, hn => by
    unfold subS
    rw [if_neg (hn y (by simp)), subS_miss r fun z hz => hn z (List.mem_cons_of_mem _ hz)]
end Go.Proofs.YtlckofoabnnlhaaDoor
