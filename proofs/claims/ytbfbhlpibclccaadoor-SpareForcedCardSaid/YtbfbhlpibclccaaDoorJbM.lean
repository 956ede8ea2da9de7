/- The arithmetic of vectors in plain words: four amounts, valid from 0 to 2^40. No conditions. -/
import Derived.WalkKit
namespace Go.Proofs.YtbfbhlpibclccaaDoor
structure V4 where
  a : Int
  b : Int
  c : Int
  d : Int
theorem V4.eq {x y : V4} (ha : x.a = y.a) (hb : x.b = y.b) (hc : x.c = y.c) (hd : x.d = y.d) : x = y := by cases x; cases y; simp only at ha hb hc hd; rw [ha, hb, hc, hd]
instance : DecidableEq V4 := fun x y =>
  if h : x.a = y.a ∧ x.b = y.b ∧ x.c = y.c ∧ x.d = y.d then isTrue (V4.eq h.1 h.2.1 h.2.2.1 h.2.2.2) else isFalse fun e => h (by rw [e]; exact ⟨rfl, rfl, rfl, rfl⟩)
instance : Inhabited V4 := ⟨⟨0, 0, 0, 0⟩⟩
def okB (a : Int) : Bool := decide (0 ≤ a ∧ a ≤ 1099511627776)
def goodV (x : V4) : Bool := okB x.a && okB x.b && okB x.c && okB x.d
def addR (x y : V4) : V4 × Nat :=
  if goodV x && goodV y then (if goodV ⟨x.a + y.a, x.b + y.b, x.c + y.c, x.d + y.d⟩ then (⟨x.a + y.a, x.b + y.b, x.c + y.c, x.d + y.d⟩, 0) else (⟨0, 0, 0, 0⟩, 4)) else (⟨0, 0, 0, 0⟩, 1)
def subR (x y : V4) : V4 × Nat :=
  if goodV x && goodV y then (if goodV ⟨x.a - y.a, x.b - y.b, x.c - y.c, x.d - y.d⟩ then (⟨x.a - y.a, x.b - y.b, x.c - y.c, x.d - y.d⟩, 0) else (⟨0, 0, 0, 0⟩, 4)) else (⟨0, 0, 0, 0⟩, 1)
def numB (n : Int) : Bool := decide (0 ≤ n ∧ n ≤ 16)
def scaleR (x : V4) (n : Int) : V4 × Nat :=
  if goodV x && numB n then (if goodV ⟨x.a * n, x.b * n, x.c * n, x.d * n⟩ then (⟨x.a * n, x.b * n, x.c * n, x.d * n⟩, 0) else (⟨0, 0, 0, 0⟩, 4)) else (⟨0, 0, 0, 0⟩, 1)
def checkR (z : V4) : V4 × Nat := if goodV z then (z, 0) else (⟨0, 0, 0, 0⟩, 4)
def fitsV (x y : V4) : Bool := decide (x.a ≤ y.a) && decide (x.b ≤ y.b) && decide (x.c ≤ y.c) && decide (x.d ≤ y.d)
def lessV (x y : V4) : Bool :=
  if x.a ≠ y.a then decide (x.a < y.a) else if x.b ≠ y.b then decide (x.b < y.b) else if x.c ≠ y.c then decide (x.c < y.c) else decide (x.d < y.d)
def noneV (x : V4) : Bool := decide (x.a = 0 ∧ x.b = 0 ∧ x.c = 0 ∧ x.d = 0)

theorem good_iff (x : V4) : goodV x = true ↔ (0 ≤ x.a ∧ x.a ≤ 1099511627776) ∧ (0 ≤ x.b ∧ x.b ≤ 1099511627776) ∧ (0 ≤ x.c ∧ x.c ≤ 1099511627776) ∧ (0 ≤ x.d ∧ x.d ≤ 1099511627776) := by
  simp [goodV, okB, and_assoc]
theorem check_le (z : V4) : (checkR z).2 ≤ 14 := by unfold checkR; split <;> simp
theorem add_le (x y : V4) : (addR x y).2 ≤ 14 := by unfold addR; (repeat' split) <;> simp
theorem sub_le (x y : V4) : (subR x y).2 ≤ 14 := by unfold subR; (repeat' split) <;> simp
theorem scale_le (x : V4) (n : Int) : (scaleR x n).2 ≤ 14 := by unfold scaleR; (repeat' split) <;> simp
theorem add_yes {x y : V4} (hx : goodV x = true) (hy : goodV y = true) : addR x y = checkR ⟨x.a + y.a, x.b + y.b, x.c + y.c, x.d + y.d⟩ := by simp [addR, checkR, hx, hy]
theorem add_no1 {x y : V4} (hx : goodV x = false) : addR x y = (⟨0, 0, 0, 0⟩, 1) := by simp [addR, hx]
theorem add_no2 {x y : V4} (hy : goodV y = false) : addR x y = (⟨0, 0, 0, 0⟩, 1) := by simp [addR, hy]
theorem sub_yes {x y : V4} (hx : goodV x = true) (hy : goodV y = true) : subR x y = checkR ⟨x.a - y.a, x.b - y.b, x.c - y.c, x.d - y.d⟩ := by simp [subR, checkR, hx, hy]
theorem sub_no1 {x y : V4} (hx : goodV x = false) : subR x y = (⟨0, 0, 0, 0⟩, 1) := by simp [subR, hx]
theorem sub_no2 {x y : V4} (hy : goodV y = false) : subR x y = (⟨0, 0, 0, 0⟩, 1) := by simp [subR, hy]
theorem scale_yes {x : V4} {n : Int} (hx : goodV x = true) (hn : 0 ≤ n ∧ n ≤ 16) : scaleR x n = checkR ⟨x.a * n, x.b * n, x.c * n, x.d * n⟩ := by simp [scaleR, checkR, numB, hx, hn]
theorem scale_no1 {x : V4} {n : Int} (hx : goodV x = false) : scaleR x n = (⟨0, 0, 0, 0⟩, 1) := by simp [scaleR, hx]
theorem scale_no2 {x : V4} {n : Int} (hn : ¬ (0 ≤ n ∧ n ≤ 16)) : scaleR x n = (⟨0, 0, 0, 0⟩, 1) := by simp only [scaleR, numB, decide_eq_false hn]; simp
/-- A product that stays in the machine's range. -/
theorem mul_bd {a n : Int} (h : 0 ≤ a ∧ a ≤ 1099511627776) (hn : 0 ≤ n ∧ n ≤ 16) : 0 ≤ a * n ∧ a * n ≤ 17592186044416 := by
  have h1 := Int.mul_nonneg h.1 hn.1
  have h2 := Int.mul_le_mul h.2 hn.2 hn.1 (by omega)
  omega
end Go.Proofs.YtbfbhlpibclccaaDoor

/- Vectors resource by resource: sums, differences, what is valid, what fits. No conditions. -/
namespace Go.Proofs.YtbfbhlpibclccaaDoor
open Go

/-- The amount of one resource. -/
def comp (r : Nat) (x : V4) : Int := match r with | 0 => x.a | 1 => x.b | 2 => x.c | _ => x.d
def z4 : V4 := ⟨0, 0, 0, 0⟩
def pv (x y : V4) : V4 := ⟨x.a + y.a, x.b + y.b, x.c + y.c, x.d + y.d⟩
def mv (x y : V4) : V4 := ⟨x.a - y.a, x.b - y.b, x.c - y.c, x.d - y.d⟩
theorem comp_pv (r : Nat) (x y : V4) : comp r (pv x y) = comp r x + comp r y := by rcases r with _ | _ | _ | r <;> rfl
theorem comp_mv (r : Nat) (x y : V4) : comp r (mv x y) = comp r x - comp r y := by rcases r with _ | _ | _ | r <;> rfl
theorem comp_z4 (r : Nat) : comp r z4 = 0 := by rcases r with _ | _ | _ | r <;> rfl
theorem comp_ext {x y : V4} (h : ∀ r, comp r x = comp r y) : x = y := V4.eq (h 0) (h 1) (h 2) (h 3)
theorem good_comp {x : V4} : goodV x = true ↔ ∀ r, 0 ≤ comp r x ∧ comp r x ≤ 1099511627776 := by
  rw [good_iff]
  constructor
  · rintro ⟨h0, h1, h2, h3⟩ r
    rcases r with _ | _ | _ | r
    · exact h0
    · exact h1
    · exact h2
    · exact h3
  · intro h; exact ⟨h 0, h 1, h 2, h 3⟩
theorem fits_comp {x y : V4} : fitsV x y = true ↔ ∀ r, comp r x ≤ comp r y := by
  unfold fitsV
  simp only [Bool.and_eq_true, decide_eq_true_eq]
  constructor
  · rintro ⟨⟨⟨h0, h1⟩, h2⟩, h3⟩ r
    rcases r with _ | _ | _ | r
    · exact h0
    · exact h1
    · exact h2
    · exact h3
  · intro h; exact ⟨⟨⟨h 0, h 1⟩, h 2⟩, h 3⟩

end Go.Proofs.YtbfbhlpibclccaaDoor

/- Fit, told plainly: what is left of a spot, which spot is best, where many demands go, what remains. No conditions. -/
namespace Go.Proofs.YtbfbhlpibclccaaDoor
open Go

/-- A spot. -/
structure Spt where
  id : Int
  left : V4
/-- A demand fits in a spot. -/
def fitS (s : Spt) (x : V4) : Prop := (subR s.left x).2 = 0
instance (s : Spt) (x : V4) : Decidable (fitS s x) := inferInstanceAs (Decidable (_ = _))
/-- What is left then. -/
def remS (s : Spt) (x : V4) : V4 := (subR s.left x).1
/-- A spot is better than another one. -/
def betS (x : V4) (s t : Spt) : Bool := lessV (remS s x) (remS t x) || (decide (remS s x = remS t x) && decide (s.id < t.id))
/-- The better of two; the second at place i. -/
def stepS (x : V4) (i : Nat) (s : Spt) : Option (Nat × Spt) → Option (Nat × Spt)
  | none => if fitS s x then some (i, s) else none
  | some (a, t) => if fitS s x then (if betS x s t then some (i, s) else some (a, t)) else some (a, t)
/-- The best of a row's spots, and its place. -/
def bestS (x : V4) (L : List Spt) : Option (Nat × Spt) := L.zipIdx.foldl (fun b p => stepS x p.2 p.1 b) none
theorem bestS_nil (x : V4) : bestS x [] = none := rfl
theorem bestS_snoc (x : V4) (L : List Spt) (s : Spt) : bestS x (L ++ [s]) = stepS x L.length s (bestS x L) := by
  unfold bestS
  rw [List.zipIdx_append, List.foldl_append]
  simp
theorem bestS_take {x : V4} {L : List Spt} {k : Nat} {s : Spt} (h : L[k]? = some s) : bestS x (L.take (k + 1)) = stepS x k s (bestS x (L.take k)) := by
  have hk := (List.getElem?_eq_some_iff.1 h).1
  rw [List.take_add_one, h, Option.toList_some, bestS_snoc, List.length_take, Nat.min_eq_left (Nat.le_of_lt hk)]
/-- What the best spot is. -/
theorem bestS_at (x : V4) : ∀ (n : Nat) (L : List Spt), L.length = n → ∀ a t, bestS x L = some (a, t) → L[a]? = some t ∧ fitS t x
  | 0, L, hL, a, t, h => by rw [List.eq_nil_of_length_eq_zero hL, bestS_nil] at h; cases h
  | n + 1, L, hL, a, t, h => by
    obtain ⟨s, hs⟩ : ∃ s, L[n]? = some s := ⟨_, List.getElem?_eq_getElem (by omega)⟩
    have hl : (L.take n).length = n := by rw [List.length_take]; omega
    have ih := bestS_at x n (L.take n) hl
    rw [show L = L.take (n + 1) from (List.take_of_length_le (by omega)).symm, bestS_take hs] at h
    have up : ∀ a t, (L.take n)[a]? = some t → L[a]? = some t := fun a t h => by
      rw [List.getElem?_take] at h; split at h
      · exact h
      · cases h
    cases hb : bestS x (L.take n) with
    | none =>
      rw [hb] at h
      unfold stepS at h
      simp only at h
      split at h
      · simp only [Option.some.injEq, Prod.mk.injEq] at h
        obtain ⟨rfl, rfl⟩ := h
        exact ⟨hs, by assumption⟩
      · cases h
    | some p =>
      obtain ⟨c, u⟩ := p
      have ihc := ih c u hb
      rw [hb] at h
      unfold stepS at h
      simp only at h
      split at h
      · split at h
        · simp only [Option.some.injEq, Prod.mk.injEq] at h
          obtain ⟨rfl, rfl⟩ := h
          exact ⟨hs, by assumption⟩
        · simp only [Option.some.injEq, Prod.mk.injEq] at h
          obtain ⟨rfl, rfl⟩ := h
          exact ⟨up _ _ ihc.1, ihc.2⟩
      · simp only [Option.some.injEq, Prod.mk.injEq] at h
        obtain ⟨rfl, rfl⟩ := h
        exact ⟨up _ _ ihc.1, ihc.2⟩
theorem bestS_get {x : V4} {L : List Spt} {a : Nat} {t : Spt} (h : bestS x L = some (a, t)) : L[a]? = some t := (bestS_at x _ L rfl a t h).1
theorem bestS_fit {x : V4} {L : List Spt} {a : Nat} {t : Spt} (h : bestS x L = some (a, t)) : fitS t x := (bestS_at x _ L rfl a t h).2
/-- There is no best spot where none fits. -/
theorem bestS_none (x : V4) : ∀ (n : Nat) (L : List Spt), L.length = n → (bestS x L = none ↔ ∀ s ∈ L, ¬ fitS s x)
  | 0, L, hL => by rw [List.eq_nil_of_length_eq_zero hL, bestS_nil]; simp
  | n + 1, L, hL => by
    obtain ⟨s, hs⟩ : ∃ s, L[n]? = some s := ⟨_, List.getElem?_eq_getElem (by omega)⟩
    have hl : (L.take n).length = n := by rw [List.length_take]; omega
    have ih := bestS_none x n (L.take n) hl
    have e : L = L.take n ++ [s] := by
      have := List.take_of_length_le (l := L) (i := n + 1) (by omega)
      rw [List.take_add_one, hs, Option.toList_some] at this
      exact this.symm
    have e2 : bestS x L = stepS x (L.take n).length s (bestS x (L.take n)) := by
      have := bestS_snoc x (L.take n) s
      rwa [← e] at this
    rw [e2]
    constructor
    · intro h y hy
      rw [e] at hy
      cases hb : bestS x (L.take n) with
      | none =>
        rw [hb] at h
        unfold stepS at h
        simp only at h
        split at h
        · cases h
        · rcases List.mem_append.1 hy with k | k
          · exact ih.1 hb y k
          · simp only [List.mem_singleton] at k; subst k; assumption
      | some p =>
        obtain ⟨c, u⟩ := p
        rw [hb] at h
        unfold stepS at h
        simp only at h
        split at h
        · split at h <;> cases h
        · cases h
    · intro h
      rw [ih.2 fun y hy => h y (by rw [e]; exact List.mem_append_left _ hy)]
      unfold stepS
      simp only
      rw [if_neg (h s (by rw [e]; simp))]
/-- A demand is taken out of a spot. -/
def cutS (t : Spt) (x : V4) : Spt := ⟨t.id, remS t x⟩
/-- Where many go. -/
def allS : List Spt → List V4 → List Int → Nat → List Int × Int
  | _, [], out, _ => (out, -1)
  | m, x :: r, out, i => match bestS x m with
    | none => ([], (i : Int))
    | some (a, t) => allS (m.set a (cutS t x)) r (out ++ [t.id]) (i + 1)
/-- A demand is taken out of the first spot of that number in which it fits. -/
def subS (id : Int) (x : V4) : List Spt → List Spt
  | [] => []
  | s :: r => if s.id = id ∧ fitS s x then cutS s x :: r else s :: subS id x r
/-- What remains. -/
def restS : List Spt → List V4 → List Int → List Spt
  | m, x :: r, d :: q => restS (subS d x m) r q
  | m, _, _ => m
theorem subS_len (id : Int) (x : V4) : ∀ m : List Spt, (subS id x m).length = m.length
  | [] => rfl
  | s :: r => by
    unfold subS
    split
    · rfl
    · rw [List.length_cons, subS_len id x r, List.length_cons]
theorem subS_hit {id : Int} {x : V4} : ∀ (m : List Spt) (k : Nat) {s : Spt}, m[k]? = some s → (∀ y ∈ m.take k, ¬ (y.id = id ∧ fitS y x)) → s.id = id ∧ fitS s x → subS id x m = m.set k (cutS s x)
  | [], _, _, h, _, _ => by cases h
  | y :: r, 0, s, h, _, hf => by
    simp only [List.getElem?_cons_zero, Option.some.injEq] at h
    subst h
    unfold subS
    rw [if_pos hf]; rfl
  | y :: r, k + 1, s, h, hn, hf => by
    unfold subS
    rw [if_neg (hn y (by simp)), List.set_cons_succ, subS_hit r k (by simpa using h) (fun z hz => hn z (by rw [List.take_succ_cons]; exact List.mem_cons_of_mem _ hz)) hf]
theorem subS_miss {id : Int} {x : V4} : ∀ (m : List Spt), (∀ y ∈ m, ¬ (y.id = id ∧ fitS y x)) → subS id x m = m
  | [], _ => rfl
  | y :: r, hn => by
    unfold subS
    rw [if_neg (hn y (by simp)), subS_miss r fun z hz => hn z (List.mem_cons_of_mem _ hz)]
end Go.Proofs.YtbfbhlpibclccaaDoor

/- Sets of envelopes and the tasks inside, told plainly: what each call answers and makes of them. No conditions. -/
namespace Go.Proofs.YtbfbhlpibclccaaDoor
open Go

/-- A task. -/
structure Tk where
  job : Int
  ix : Int
theorem Tk.eq {x y : Tk} (h1 : x.job = y.job) (h2 : x.ix = y.ix) : x = y := by cases x; cases y; simp only at h1 h2; rw [h1, h2]
instance : DecidableEq Tk := fun x y => if h : x.job = y.job ∧ x.ix = y.ix then isTrue (Tk.eq h.1 h.2) else isFalse fun e => h (by rw [e]; exact ⟨rfl, rfl⟩)
instance : Inhabited Tk := ⟨⟨0, 0⟩⟩
/-- A set of envelopes. -/
structure SetA where
  id : Int
  n : Nat
  has : V4
  up : Int → Bool
/-- A task inside. -/
structure InA where
  tk : Tk
  set : Int
  pos : Int
  need : V4
/-- Sets and tasks. -/
structure AG where
  sets : List SetA
  tasks : List InA
def setA (G : AG) (id : Int) : Option SetA := G.sets.find? fun s => decide (s.id = id)
def tkA (G : AG) (t : Tk) : Option InA := G.tasks.find? fun x => decide (x.tk = t)
def inE (id pos : Int) (x : InA) : Bool := decide (x.set = id) && decide (x.pos = pos)
/-- What some need, of one resource. -/
def needN (r : Nat) (L : List InA) : Int := (L.map fun x => comp r x.need).sum
def needV (L : List InA) : V4 := ⟨needN 0 L, needN 1 L, needN 2 L, needN 3 L⟩
/-- What is left of an envelope. -/
def leftA (G : AG) (s : SetA) (pos : Int) : V4 := mv s.has (needV (G.tasks.filter (inE s.id pos)))
def lessT (x y : Tk) : Prop := x.job < y.job ∨ (x.job = y.job ∧ x.ix < y.ix)
instance (x y : Tk) : Decidable (lessT x y) := inferInstanceAs (Decidable (_ ∨ _))
/-- A task among others that are in order. -/
def insT (x : Tk) : List Tk → List Tk
  | [] => [x]
  | y :: r => if lessT y x then y :: insT x r else x :: y :: r
def sortT (L : List Tk) : List Tk := L.foldl (fun o x => insT x o) []
def insideA (G : AG) (id pos : Int) : List Tk := sortT ((G.tasks.filter (inE id pos)).map (·.tk))
def spotsA (G : AG) (s : SetA) (k : Nat) : List Spt := ((List.range k).filter fun (i : Nat) => s.up (i : Int)).map fun (i : Nat) => ⟨(i : Int), leftA G s (i : Int)⟩

def SetA.turn (s : SetA) (pos : Int) (b : Bool) : SetA := ⟨s.id, s.n, s.has, fun k => if k = pos then b else s.up k⟩
def openA (G : AG) (id n : Int) (has : V4) : AG × Nat :=
  if id < 1 ∨ 999 < id ∨ n < 1 ∨ 8 < n ∨ goodV has = false then (G, 1)
  else if (setA G id).isSome = true then (G, 6)
  else if 8 ≤ G.sets.length then (G, 7)
  else (⟨G.sets ++ [⟨id, n.toNat, has, fun _ => false⟩], G.tasks⟩, 0)
def closeA (G : AG) (id : Int) : AG × Nat :=
  if (setA G id).isSome = false then (G, 5)
  else if G.tasks.any (fun x => decide (x.set = id)) = true then (G, 13)
  else (⟨G.sets.filter fun s => !decide (s.id = id), G.tasks⟩, 0)
def turnG (G : AG) (id pos : Int) (b : Bool) : AG :=
  ⟨G.sets.map fun s => if s.id = id then s.turn pos b else s, G.tasks.filter fun x => !inE id pos x⟩
def turnA (G : AG) (id pos : Int) (b : Bool) : AG × Nat :=
  match setA G id with
  | none => (G, 5)
  | some s => if pos < 0 ∨ (s.n : Int) ≤ pos then (G, 1) else if s.up pos = b then (G, 13) else (turnG G id pos b, 0)
def putA (G : AG) (t : Tk) (id pos : Int) (need : V4) : AG × Nat :=
  match setA G id with
  | none => (G, 5)
  | some s => if (pos < 0 ∨ (s.n : Int) ≤ pos) ∨ goodV need = false then (G, 1) else if s.up pos = false then (G, 13) else if (tkA G t).isSome = true then (G, 6)
    else if fitsV need (leftA G s pos) = false then (G, 10) else (⟨G.sets, G.tasks ++ [⟨t, id, pos, need⟩]⟩, 0)
def takeG (G : AG) (t : Tk) : AG := ⟨G.sets, G.tasks.filter fun x => !decide (x.tk = t)⟩
def takeA (G : AG) (t : Tk) : AG × Nat := if (tkA G t).isSome = false then (G, 5) else (takeG G t, 0)

/-- What holds of all that the calls have made. -/
structure GA (G : AG) : Prop where
  ids : G.sets.Pairwise fun a b => a.id ≠ b.id
  tks : G.tasks.Pairwise fun a b => a.tk ≠ b.tk
  set : ∀ s ∈ G.sets, 1 ≤ s.id ∧ s.id ≤ 999 ∧ 1 ≤ s.n ∧ s.n ≤ 8 ∧ goodV s.has = true
  task : ∀ x ∈ G.tasks, goodV x.need = true ∧ ∃ s, setA G x.set = some s ∧ 0 ≤ x.pos ∧ x.pos < (s.n : Int) ∧ s.up x.pos = true
  left : ∀ s ∈ G.sets, ∀ pos, goodV (leftA G s pos) = true
  few : G.sets.length ≤ 8

/-! ### by key -/
theorem find_key {α κ : Type} [DecidableEq κ] (f : α → κ) {L : List α} (h : L.Pairwise fun a b => f a ≠ f b) {x : α} {k : κ} : L.find? (fun s => decide (f s = k)) = some x ↔ x ∈ L ∧ f x = k := by
  induction L with
  | nil => simp
  | cons y L ih =>
    rw [List.pairwise_cons] at h
    rw [List.find?_cons]
    by_cases e : f y = k
    · simp only [e, decide_true, Option.some.injEq, List.mem_cons]
      constructor
      · rintro rfl; exact ⟨.inl rfl, e⟩
      · rintro ⟨rfl | hm, hx⟩
        · rfl
        · exact absurd (e.trans hx.symm) (h.1 x hm)
    · simp only [e, decide_false, ih h.2, List.mem_cons]
      constructor
      · rintro ⟨h1, h2⟩; exact ⟨.inr h1, h2⟩
      · rintro ⟨rfl | h1, h2⟩
        · exact absurd h2 e
        · exact ⟨h1, h2⟩
theorem find_none {α κ : Type} [DecidableEq κ] (f : α → κ) {L : List α} {k : κ} : L.find? (fun s => decide (f s = k)) = none ↔ ∀ x ∈ L, f x ≠ k := by
  rw [List.find?_eq_none]; simp
theorem find_filter {α κ : Type} [DecidableEq κ] (f : α → κ) {L : List α} (k j : κ) : (L.filter fun s => !decide (f s = k)).find? (fun s => decide (f s = j)) = if j = k then none else L.find? fun s => decide (f s = j) := by
  by_cases e : j = k
  · subst e
    rw [if_pos rfl, find_none]
    intro x hx
    simpa using (List.mem_filter.1 hx).2
  · rw [if_neg e]
    induction L with
    | nil => rfl
    | cons y L ih =>
      rw [List.filter_cons]
      by_cases h : f y = k
      · have : ¬ f y = j := fun h2 => e (h2.symm.trans h)
        simp only [h, decide_true, Bool.not_true, Bool.false_eq_true, if_false, List.find?_cons]
        rw [ih]
        have : decide (k = j) = false := decide_eq_false fun h => e h.symm
        rw [this]
      · simp only [h, decide_false, Bool.not_false, if_true, List.find?_cons, ih]
theorem cut_filter {α κ : Type} [DecidableEq κ] (f : α → κ) {L : List α} (h : L.Pairwise fun a b => f a ≠ f b) {i : Nat} {x : α} (hi : L[i]? = some x) : L.take i ++ L.drop (i + 1) = L.filter fun s => !decide (f s = f x) := by
  induction L generalizing i with
  | nil => cases hi
  | cons y L ih =>
    rw [List.pairwise_cons] at h
    cases i with
    | zero =>
      simp only [List.getElem?_cons_zero, Option.some.injEq] at hi
      subst hi
      rw [List.filter_cons]
      simp only [decide_true, Bool.not_true, Bool.false_eq_true, if_false, List.take_zero, List.nil_append, Nat.zero_add, List.drop_succ_cons, List.drop_zero]
      exact (List.filter_eq_self.2 fun z hz => by simpa using fun e => h.1 z hz e.symm).symm
    | succ i =>
      simp only [List.getElem?_cons_succ] at hi
      have hne : ¬ f y = f x := h.1 x (List.mem_of_getElem? hi)
      rw [List.take_succ_cons, List.drop_succ_cons, List.filter_cons, List.cons_append, ih h.2 hi]
      simp [hne]
theorem set_iff {G : AG} (h : GA G) {id : Int} {s : SetA} : setA G id = some s ↔ s ∈ G.sets ∧ s.id = id := find_key SetA.id h.ids
theorem set_none {G : AG} {id : Int} : setA G id = none ↔ ∀ s ∈ G.sets, s.id ≠ id := find_none SetA.id
theorem tk_iff {G : AG} (h : GA G) {t : Tk} {x : InA} : tkA G t = some x ↔ x ∈ G.tasks ∧ x.tk = t := find_key InA.tk h.tks
theorem tk_none {G : AG} {t : Tk} : tkA G t = none ↔ ∀ x ∈ G.tasks, x.tk ≠ t := find_none InA.tk
theorem set_id {G : AG} (h : GA G) {id : Int} {s : SetA} (e : setA G id = some s) : s.id = id := ((set_iff h).1 e).2
theorem set_mem {G : AG} (h : GA G) {id : Int} {s : SetA} (e : setA G id = some s) : s ∈ G.sets := ((set_iff h).1 e).1

/-! ### sums -/
theorem comp_needV (r : Nat) (L : List InA) : comp r (needV L) = needN r L := by rcases r with _ | _ | _ | r <;> rfl
theorem needN_cons (r : Nat) (x : InA) (L : List InA) : needN r (x :: L) = comp r x.need + needN r L := by unfold needN; rw [List.map_cons, List.sum_cons]
theorem needN_app (r : Nat) (L M : List InA) : needN r (L ++ M) = needN r L + needN r M := by unfold needN; rw [List.map_append, List.sum_append]
theorem needN_nil (r : Nat) : needN r [] = 0 := rfl
theorem needN_pos (r : Nat) {L : List InA} (h : ∀ x ∈ L, goodV x.need = true) : 0 ≤ needN r L := by
  induction L with
  | nil => exact Int.le_refl _
  | cons x L ih =>
    rw [needN_cons]
    have h1 := ih fun y hy => h y (List.mem_cons_of_mem _ hy)
    have h2 := good_comp.1 (h x (List.mem_cons_self ..)) r
    omega
theorem needN_filter (r : Nat) (p : InA → Bool) {L : List InA} (h : ∀ x ∈ L, goodV x.need = true) : needN r (L.filter p) ≤ needN r L := by
  induction L with
  | nil => exact Int.le_refl _
  | cons x L ih =>
    have h1 := ih fun y hy => h y (List.mem_cons_of_mem _ hy)
    have h2 := good_comp.1 (h x (List.mem_cons_self ..)) r
    rw [List.filter_cons, needN_cons]
    split
    · rw [needN_cons]; omega
    · omega
theorem needN_take (r : Nat) {L : List InA} (h : ∀ x ∈ L, goodV x.need = true) (i : Nat) : needN r (L.take i) ≤ needN r L := by
  have e : needN r L = needN r (L.take i) + needN r (L.drop i) := by rw [← needN_app, List.take_append_drop]
  have := needN_pos r (L := L.drop i) fun x hx => h x (List.mem_of_mem_drop hx)
  omega
theorem comp_left (G : AG) (s : SetA) (pos : Int) (r : Nat) : comp r (leftA G s pos) = comp r s.has - needN r (G.tasks.filter (inE s.id pos)) := by unfold leftA; rw [comp_mv, comp_needV]
/-- The sum less one. -/
theorem needN_less (r : Nat) {L : List InA} (h : L.Pairwise fun a b => a.tk ≠ b.tk) {x : InA} (hx : x ∈ L) : needN r (L.filter fun y => !decide (y.tk = x.tk)) = needN r L - comp r x.need := by
  induction L with
  | nil => cases hx
  | cons y L ih =>
    rw [List.pairwise_cons] at h
    rw [List.filter_cons, needN_cons]
    rcases List.mem_cons.1 hx with rfl | hm
    · simp only [decide_true, Bool.not_true, Bool.false_eq_true, if_false]
      rw [List.filter_eq_self.2 fun z hz => by simpa using fun e => h.1 z hz e.symm]
      omega
    · have : ¬ y.tk = x.tk := h.1 x hm
      simp only [this, decide_false, Bool.not_false, if_true]
      rw [needN_cons, ih h.2 hm]; omega

/-! ### what holds stays so -/
theorem GA.empty : GA ⟨[], []⟩ := ⟨List.Pairwise.nil, List.Pairwise.nil, fun _ h => (by cases h), fun _ h => (by cases h), fun _ h => (by cases h), Nat.zero_le _⟩
theorem GA.need {G : AG} (h : GA G) : ∀ x ∈ G.tasks, goodV x.need = true := fun x hx => (h.task x hx).1
/-- Tasks are left out. -/
theorem GA.less {G : AG} (h : GA G) (p : InA → Bool) : GA ⟨G.sets, G.tasks.filter p⟩ where
  ids := h.ids
  tks := h.tks.filter p
  set := h.set
  task := fun x hx => h.task x (List.mem_filter.1 hx).1
  left := fun s hs pos => good_comp.2 fun r => by
    have h1 := good_comp.1 (h.left s hs pos) r
    have h2 := good_comp.1 (h.set s hs).2.2.2.2 r
    rw [comp_left] at h1 ⊢
    have h3 := needN_filter r p (L := G.tasks.filter (inE s.id pos)) fun x hx => h.need x (List.mem_filter.1 hx).1
    have h4 := needN_pos r (L := (G.tasks.filter p).filter (inE s.id pos)) fun x hx => h.need x (List.mem_filter.1 (List.mem_filter.1 hx).1).1
    simp only at h4 ⊢
    rw [List.filter_filter] at h3 h4 ⊢
    have e : (fun a => p a && inE s.id pos a) = fun a => inE s.id pos a && p a := by funext a; rw [Bool.and_comm]
    rw [e] at h3
    omega
  few := h.few
theorem GA.take {G : AG} (h : GA G) (t : Tk) : GA (takeA G t).1 := by
  unfold takeA; split
  · exact h
  · exact h.less _
theorem left_none {G : AG} {s : SetA} {pos : Int} (h : ∀ x ∈ G.tasks, inE s.id pos x = false) : leftA G s pos = s.has := by
  apply comp_ext; intro r
  rw [comp_left, List.filter_eq_nil_iff.2 fun x hx => by simp [h x hx], needN_nil]; omega
theorem GA.open {G : AG} (h : GA G) (id n : Int) (has : V4) : GA (openA G id n has).1 := by
  unfold openA
  split
  · exact h
  · rename_i h1
    split
    · exact h
    · rename_i h2
      split
      · exact h
      · rename_i h3
        have hno : ∀ s ∈ G.sets, s.id ≠ id := set_none.1 (by cases e : setA G id with | none => rfl | some s => rw [e] at h2; exact absurd rfl h2)
        have hg : goodV has = true := by cases e : goodV has with | true => rfl | false => exact absurd (.inr (.inr (.inr (.inr e)))) h1
        have hnt : ∀ x ∈ G.tasks, x.set ≠ id := fun x hx e => by
          obtain ⟨_, s, hs, _⟩ := h.task x hx
          exact hno s (set_mem h hs) ((set_id h hs).trans e)
        have hids : (G.sets ++ [(⟨id, n.toNat, has, fun _ => false⟩ : SetA)]).Pairwise fun a b => a.id ≠ b.id := List.pairwise_append.2 ⟨h.ids, List.pairwise_singleton _ _, fun a ha b hb => by rw [List.mem_singleton.1 hb]; exact hno a ha⟩
        refine ⟨hids, h.tks, fun s hs => ?_, fun x hx => ?_, fun s hs pos => ?_, by simp only [List.length_append, List.length_singleton]; omega⟩
        · rcases List.mem_append.1 hs with hm | hm
          · exact h.set s hm
          · rw [List.mem_singleton.1 hm]; simp only; exact ⟨by omega, by omega, by omega, by omega, hg⟩
        · obtain ⟨k1, s, hs, k2⟩ := h.task x hx
          refine ⟨k1, s, ?_, k2⟩
          exact (find_key SetA.id hids).2 ⟨List.mem_append_left _ (set_mem h hs), set_id h hs⟩
        · rcases List.mem_append.1 hs with hm | hm
          · exact h.left s hm pos
          · rw [List.mem_singleton.1 hm]
            rw [left_none fun x hx => by unfold inE; simp [hnt x hx]]
            exact hg
theorem GA.close {G : AG} (h : GA G) (id : Int) : GA (closeA G id).1 := by
  unfold closeA
  split
  · exact h
  · split
    · exact h
    · rename_i h2
      have hno : ∀ x ∈ G.tasks, x.set ≠ id := by simpa using h2
      refine ⟨h.ids.filter _, h.tks, fun s hs => h.set s (List.mem_filter.1 hs).1, fun x hx => ?_, fun s hs => h.left s (List.mem_filter.1 hs).1, Nat.le_trans (List.length_filter_le _ _) h.few⟩
      obtain ⟨k1, s, hs, k2⟩ := h.task x hx
      refine ⟨k1, s, ?_, k2⟩
      show (G.sets.filter _).find? _ = _
      rw [find_filter SetA.id, if_neg (hno x hx)]
      exact hs
theorem turn_id (s : SetA) (pos : Int) (b : Bool) : (s.turn pos b).id = s.id := rfl
theorem turn_set {G : AG} (id pos : Int) (b : Bool) (j : Int) : setA (turnG G id pos b) j = (setA G j).map fun s => if s.id = id then s.turn pos b else s := by
  unfold setA turnG
  simp only [List.find?_map]
  congr 2
  funext s
  simp only [Function.comp]
  split <;> rfl
theorem left_turn {G : AG} (_h : GA G) {id pos : Int} {b : Bool} {s : SetA} (j : Int) : leftA (turnG G id pos b) s j = if s.id = id ∧ j = pos then s.has else leftA G s j := by
  apply comp_ext; intro r
  split
  · rename_i e
    obtain ⟨rfl, rfl⟩ := e
    rw [left_none]
    intro x hx
    have := (List.mem_filter.1 hx).2
    simpa using this
  · rename_i e
    rw [comp_left, comp_left]
    congr 2
    show (G.tasks.filter _).filter _ = _
    rw [List.filter_filter]
    apply List.filter_congr
    intro x _
    unfold inE
    by_cases e1 : x.set = s.id
    · by_cases e2 : x.pos = j
      · have : ¬ (s.id = id ∧ j = pos) := e
        rw [e1, e2]
        simp only [decide_true, Bool.and_self, Bool.true_and, Bool.not_and, Bool.or_eq_true, Bool.not_eq_true', decide_eq_false_iff_not]
        by_cases e3 : s.id = id
        · exact .inr fun e4 => this ⟨e3, e4⟩
        · exact .inl e3
      · simp [e2]
    · simp [e1]
theorem GA.turnG {G : AG} (h : GA G) {id pos : Int} {b : Bool} {s0 : SetA} (_hs0 : setA G id = some s0) (_hu : s0.up pos = !b) : GA (turnG G id pos b) where
  ids := by
    show (G.sets.map _).Pairwise _
    rw [List.pairwise_map]
    refine h.ids.imp fun {x y} hxy => ?_
    have k : ∀ s : SetA, (if s.id = id then s.turn pos b else s).id = s.id := fun s => by split <;> rfl
    rw [k, k]; exact hxy
  tks := h.tks.filter _
  set := fun s hs => by
    obtain ⟨z, hz, rfl⟩ := List.mem_map.1 hs
    have := h.set z hz
    split <;> exact this
  task := fun x hx => by
    obtain ⟨hx1, hx2⟩ := List.mem_filter.1 hx
    obtain ⟨k1, s, hs, k2, k3, k4⟩ := h.task x hx1
    refine ⟨k1, (if s.id = id then s.turn pos b else s), by rw [turn_set, hs]; rfl, ?_⟩
    split
    · rename_i e
      refine ⟨k2, k3, ?_⟩
      show (if x.pos = pos then b else s.up x.pos) = true
      rw [if_neg]
      · exact k4
      · intro e2
        have : x.set = id := (set_id h hs).symm.trans e
        simp [inE, this, e2] at hx2
    · exact ⟨k2, k3, k4⟩
  left := fun s hs j => by
    obtain ⟨z, hz, rfl⟩ := List.mem_map.1 hs
    have e : goodV (leftA (Go.Proofs.YtbfbhlpibclccaaDoor.turnG G id pos b) z j) = true := by
      rw [left_turn h]
      split
      · exact (h.set z hz).2.2.2.2
      · exact h.left z hz j
    have e2 : ∀ G' : AG, leftA G' (if z.id = id then z.turn pos b else z) j = leftA G' z j := fun G' => by split <;> rfl
    rw [e2]; exact e
  few := by show (G.sets.map _).length ≤ 8; rw [List.length_map]; exact h.few
theorem GA.turn {G : AG} (h : GA G) (id pos : Int) (b : Bool) : GA (turnA G id pos b).1 := by
  unfold turnA
  cases e : setA G id with
  | none => exact h
  | some s =>
    simp only
    split
    · exact h
    · split
      · exact h
      · rename_i k; exact h.turnG e (by cases b <;> simpa using k)
theorem left_put {G : AG} {s : SetA} {t : Tk} {id pos j : Int} {need : V4} : leftA ⟨G.sets, G.tasks ++ [⟨t, id, pos, need⟩]⟩ s j = if s.id = id ∧ j = pos then mv (leftA G s j) need else leftA G s j := by
  apply comp_ext; intro r
  rw [comp_left]
  show _ - needN r ((G.tasks ++ _).filter _) = _
  rw [List.filter_append, needN_app]
  split
  · rename_i e
    obtain ⟨rfl, rfl⟩ := e
    rw [comp_mv, comp_left, List.filter_cons]
    simp only [inE, decide_true, Bool.and_self, if_true, List.filter_nil]
    rw [needN_cons, needN_nil, show comp r (⟨t, s.id, j, need⟩ : InA).need = comp r need from rfl]; omega
  · rename_i e
    rw [comp_left, List.filter_cons]
    have : inE s.id j (⟨t, id, pos, need⟩ : InA) = false := by
      unfold inE
      simp only
      by_cases e1 : id = s.id
      · by_cases e2 : pos = j
        · exact absurd ⟨e1.symm, e2.symm⟩ e
        · simp [e2]
      · simp [e1]
    rw [this]
    simp only [Bool.false_eq_true, if_false, List.filter_nil]
    rw [needN_nil]; omega
theorem GA.put {G : AG} (h : GA G) (t : Tk) (id pos : Int) (need : V4) : GA (putA G t id pos need).1 := by
  unfold putA
  cases e : setA G id with
  | none => exact h
  | some s =>
    simp only
    split
    · exact h
    · rename_i h1
      split
      · exact h
      · rename_i h2
        split
        · exact h
        · rename_i h3
          split
          · exact h
          · rename_i h4
            have hg : goodV need = true := by cases k : goodV need with | true => rfl | false => exact absurd (.inr k) h1
            have hf : fitsV need (leftA G s pos) = true := by cases k : fitsV need (leftA G s pos) with | true => rfl | false => exact absurd k h4
            have hno : ∀ x ∈ G.tasks, x.tk ≠ t := tk_none.1 (by cases k : tkA G t with | none => rfl | some s => rw [k] at h3; exact absurd rfl h3)
            refine ⟨h.ids, List.pairwise_append.2 ⟨h.tks, List.pairwise_singleton _ _, fun a ha b hb => by rw [List.mem_singleton.1 hb]; exact hno a ha⟩, h.set, fun x hx => ?_, fun z hz j => ?_, h.few⟩
            · rcases List.mem_append.1 hx with hm | hm
              · exact h.task x hm
              · rw [List.mem_singleton.1 hm]
                exact ⟨hg, s, e, by simp only; omega, by simp only; omega, by simpa using h2⟩
            · rw [left_put]
              split
              · rename_i k
                obtain rfl : z = s := by
                  have := (set_iff h).2 ⟨hz, k.1⟩
                  rw [e] at this; exact (Option.some.inj this).symm
                rw [k.2]
                refine good_comp.2 fun r => ?_
                have k1 := good_comp.1 (h.left z hz pos) r
                have k2 := good_comp.1 hg r
                have k3 := fits_comp.1 hf r
                rw [comp_mv]; omega
              · exact h.left z hz j
end Go.Proofs.YtbfbhlpibclccaaDoor

/- Where the first that is so stands in a row. No conditions. -/
namespace Go.Proofs.YtbfbhlpibclccaaDoor
open Go

/-- The place of the first that is so; -1: there is none. -/
def posF {α : Type} (p : α → Bool) (L : List α) : Int := match L.findIdx? p with
  | some i => (i : Int)
  | none => -1
theorem find_is {α : Type} {p : α → Bool} : ∀ {L : List α} {i : Nat} {x : α}, L[i]? = some x → p x = true → (∀ k y, k < i → L[k]? = some y → p y = false) → L.findIdx? p = some i
  | [], _, _, h, _, _ => by cases h
  | y :: L, 0, x, h, hp, _ => by
    simp only [List.getElem?_cons_zero, Option.some.injEq] at h
    subst h
    rw [List.findIdx?_cons, hp]; rfl
  | y :: L, i + 1, x, h, hp, hno => by
    rw [List.findIdx?_cons, hno 0 y (Nat.succ_pos i) rfl, find_is (L := L) (i := i) h hp fun k z hk hz => hno (k + 1) z (Nat.succ_lt_succ hk) hz]
    rfl
theorem posF_is {α : Type} {p : α → Bool} {L : List α} {i : Nat} {x : α} (h : L[i]? = some x) (hp : p x = true) (hno : ∀ (k : Nat) (y : α), k < i → L[k]? = some y → p y = false) : posF p L = (i : Int) := by
  unfold posF; rw [find_is h hp hno]
theorem posF_none {α : Type} {p : α → Bool} {L : List α} (hno : ∀ (k : Nat) (y : α), L[k]? = some y → p y = false) : posF p L = -1 := by
  unfold posF
  rw [List.findIdx?_eq_none_iff.2 fun x hx => by obtain ⟨i, hi⟩ := List.mem_iff_getElem?.1 hx; exact hno i x hi]
theorem posF_cases {α : Type} (p : α → Bool) (L : List α) : (posF p L = -1 ∧ ∀ x ∈ L, p x = false) ∨ ∃ (i : Nat) (x : α), posF p L = (i : Int) ∧ i < L.length ∧ L[i]? = some x ∧ p x = true := by
  unfold posF
  cases h : L.findIdx? p with
  | none => exact .inl ⟨rfl, fun x hx => List.findIdx?_eq_none_iff.1 h x hx⟩
  | some i =>
    obtain ⟨hi, hp, _⟩ := List.findIdx?_eq_some_iff_getElem.1 h
    exact .inr ⟨i, L[i], rfl, hi, List.getElem?_eq_getElem hi, hp⟩
def posS (G : AG) (id : Int) : Int := posF (fun s : SetA => decide (s.id = id)) G.sets
def posT (G : AG) (t : Tk) : Int := posF (fun x : InA => decide (x.tk = t)) G.tasks
theorem posS_cases {G : AG} (h : GA G) (id : Int) : (posS G id = -1 ∧ setA G id = none) ∨ ∃ (i : Nat) (s : SetA), posS G id = (i : Int) ∧ i < G.sets.length ∧ G.sets[i]? = some s ∧ setA G id = some s := by
  rcases posF_cases (fun s : SetA => decide (s.id = id)) G.sets with ⟨h1, h2⟩ | ⟨i, s, h1, h2, h3, h4⟩
  · exact .inl ⟨h1, set_none.2 fun x hx => by simpa using h2 x hx⟩
  · exact .inr ⟨i, s, h1, h2, h3, (set_iff h).2 ⟨List.mem_of_getElem? h3, by simpa using h4⟩⟩
theorem posT_cases {G : AG} (h : GA G) (t : Tk) : (posT G t = -1 ∧ tkA G t = none) ∨ ∃ (i : Nat) (x : InA), posT G t = (i : Int) ∧ i < G.tasks.length ∧ G.tasks[i]? = some x ∧ tkA G t = some x := by
  rcases posF_cases (fun x : InA => decide (x.tk = t)) G.tasks with ⟨h1, h2⟩ | ⟨i, s, h1, h2, h3, h4⟩
  · exact .inl ⟨h1, tk_none.2 fun x hx => by simpa using h2 x hx⟩
  · exact .inr ⟨i, s, h1, h2, h3, (tk_iff h).2 ⟨List.mem_of_getElem? h3, by simpa using h4⟩⟩
end Go.Proofs.YtbfbhlpibclccaaDoor

/- Jobs and where their tasks are, told plainly: what each call answers and makes of them. No conditions. -/
namespace Go.Proofs.YtbfbhlpibclccaaDoor
open Go

/-- A job. -/
structure JR where
  id : Int
  tenant : Int
  cell : Int
  band : Int
  tasks : Int
  need : V4
  first : Int
  windows : Int
  budget : Int
  env : Bool
  set : Int
/-- A job, and where its tasks are. -/
structure JE where
  job : JR
  pl : List Int
def inB (n a b : Int) : Bool := decide (a ≤ n) && decide (n ≤ b)
def goodJ (j : JR) : Bool :=
  decide ((scaleR j.need j.tasks).2 = 0) && inB j.id 1 999 && inB j.tenant 1 999 && inB j.cell 1 4 && inB j.band 0 2 && inB j.tasks 1 8 && inB j.first 0 1073741824 && inB j.windows 1 8 && inB j.budget 0 100 && (decide (j.set = 0) || (!j.env && inB j.set 1 999))
def findJ (L : List JE) (id : Int) : Option JE := L.find? fun e => decide (e.job.id = id)
def insJ (x : JE) : List JE → List JE
  | [] => [x]
  | y :: r => if y.job.id < x.job.id then y :: insJ x r else x :: y :: r
def addJ (L : List JE) (j : JR) : List JE × Nat :=
  if goodJ j = false then (L, 1) else if (findJ L j.id).isSome = true then (L, 6) else if 32 ≤ L.length then (L, 7) else (insJ ⟨j, List.replicate j.tasks.toNat (-1)⟩ L, 0)
def dropJ (L : List JE) (id : Int) : List JE × Nat := if (findJ L id).isSome = false then (L, 5) else (L.filter (fun e => !decide (e.job.id = id)), 0)
def setJ (L : List JE) (id : Int) (k : Nat) (p : Int) : List JE := L.map fun e => if e.job.id = id then ⟨e.job, e.pl.set k p⟩ else e
def plAt (e : JE) (k : Nat) : Int := e.pl.getD k (-1)
/-- What a search for a task tells: its error. -/
def findE5 (L : List JE) (t : Tk) : Nat := match findJ L t.job with
  | none => 5
  | some e => if t.ix < 0 ∨ (e.pl.length : Int) ≤ t.ix then 1 else 0
def putJ (L : List JE) (t : Tk) (p : Int) : List JE × Nat := match findJ L t.job with
  | none => (L, 5)
  | some e => if (t.ix < 0 ∨ (e.pl.length : Int) ≤ t.ix) ∨ p < 0 then (L, 1) else if plAt e t.ix.toNat ≠ -1 then (L, 13) else (setJ L t.job t.ix.toNat p, 0)
def waitJ (L : List JE) (t : Tk) : List JE × Nat := match findJ L t.job with
  | none => (L, 5)
  | some e => if t.ix < 0 ∨ (e.pl.length : Int) ≤ t.ix then (L, 1) else if plAt e t.ix.toNat = -1 then (L, 13) else (setJ L t.job t.ix.toNat (-1), 0)
def whereJ (L : List JE) (t : Tk) : Int := match findJ L t.job with
  | none => -1
  | some e => if t.ix < 0 ∨ (e.pl.length : Int) ≤ t.ix then -1 else plAt e t.ix.toNat
/-- Those tasks of a job that are so, the first k looked at. -/
def rowT (sel : JE → Int → Bool) (e : JE) (k : Nat) : List Tk := ((List.range k).filter fun (j : Nat) => sel e (plAt e j)).map fun (j : Nat) => ⟨e.job.id, (j : Int)⟩
def tasksJ (sel : JE → Int → Bool) (L : List JE) : List Tk := L.flatMap fun e => rowT sel e e.pl.length
def selW : JE → Int → Bool := fun _ p => decide (p = -1)
def selA (q : Int) : JE → Int → Bool := fun e p => decide (e.job.set = 0) && decide (p = q)

/-- What holds of all that the calls have made. -/
structure GJ (L : List JE) : Prop where
  ord : L.Pairwise fun a b => a.job.id < b.job.id
  good : ∀ e ∈ L, goodJ e.job = true ∧ e.pl.length = e.job.tasks.toNat ∧ ∀ p ∈ e.pl, -1 ≤ p
  few : L.length ≤ 32

/-! ### by number -/
theorem inB_iff {n a b : Int} : inB n a b = true ↔ a ≤ n ∧ n ≤ b := by unfold inB; simp
theorem GJ.ne {L : List JE} (h : GJ L) : L.Pairwise fun a b => a.job.id ≠ b.job.id := h.ord.imp fun {_ _} h => by omega
theorem findJ_iff {L : List JE} (h : GJ L) {id : Int} {e : JE} : findJ L id = some e ↔ e ∈ L ∧ e.job.id = id := find_key (fun e : JE => e.job.id) h.ne
theorem findJ_none {L : List JE} {id : Int} : findJ L id = none ↔ ∀ e ∈ L, e.job.id ≠ id := find_none (fun e : JE => e.job.id)
theorem findJ_id {L : List JE} (h : GJ L) {id : Int} {e : JE} (k : findJ L id = some e) : e.job.id = id := ((findJ_iff h).1 k).2
theorem findJ_mem {L : List JE} (h : GJ L) {id : Int} {e : JE} (k : findJ L id = some e) : e ∈ L := ((findJ_iff h).1 k).1
theorem GJ.nodup {L : List JE} (h : GJ L) : (L.map fun e => e.job.id).Nodup := List.pairwise_map.2 h.ne
theorem GJ.nil : GJ [] := ⟨List.Pairwise.nil, fun _ h => (by cases h), Nat.zero_le _⟩
theorem goodJ_nums {j : JR} (h : goodJ j = true) : (1 ≤ j.id ∧ j.id ≤ 999) ∧ (1 ≤ j.tasks ∧ j.tasks ≤ 8) := by
  unfold goodJ at h
  simp only [Bool.and_eq_true, inB_iff] at h
  omega
theorem GJ.len {L : List JE} (h : GJ L) {e : JE} (he : e ∈ L) : 1 ≤ e.pl.length ∧ e.pl.length ≤ 8 := by
  obtain ⟨h1, h2, _⟩ := h.good e he
  obtain ⟨_, h3, h4⟩ := goodJ_nums h1
  omega
theorem plAt_get {e : JE} {k : Nat} {p : Int} (h : e.pl[k]? = some p) : plAt e k = p := by unfold plAt; rw [List.getD_eq_getElem?_getD, h]; rfl
theorem plAt_lt {e : JE} {k : Nat} (h : k < e.pl.length) : e.pl[k]? = some (plAt e k) := by
  obtain ⟨p, hp⟩ : ∃ p, e.pl[k]? = some p := ⟨_, List.getElem?_eq_getElem h⟩
  rw [hp, plAt_get hp]
theorem plAt_ge {L : List JE} (h : GJ L) {e : JE} (he : e ∈ L) (k : Nat) : -1 ≤ plAt e k := by
  unfold plAt
  rw [List.getD_eq_getElem?_getD]
  cases hk : e.pl[k]? with
  | none => simp
  | some p => exact (h.good e he).2.2 p (List.mem_of_getElem? hk)

/-! ### what the calls make stays good -/
theorem insJ_mem {x y : JE} : ∀ {L : List JE}, y ∈ insJ x L ↔ y = x ∨ y ∈ L
  | [] => by simp [insJ]
  | z :: L => by
    unfold insJ
    split
    · rw [List.mem_cons, insJ_mem, List.mem_cons]; constructor <;> (intro h; rcases h with h | h | h <;> simp [h])
    · simp
theorem insJ_len (x : JE) : ∀ L : List JE, (insJ x L).length = L.length + 1
  | [] => rfl
  | z :: L => by unfold insJ; split <;> simp [insJ_len x L]
theorem insJ_ord {x : JE} : ∀ {L : List JE}, L.Pairwise (fun a b => a.job.id < b.job.id) → (∀ y ∈ L, y.job.id ≠ x.job.id) → (insJ x L).Pairwise fun a b => a.job.id < b.job.id
  | [], _, _ => by simp [insJ]
  | z :: L, h, hx => by
    rw [List.pairwise_cons] at h
    unfold insJ
    split
    · rename_i hz
      refine List.pairwise_cons.2 ⟨fun y hy => ?_, insJ_ord h.2 fun y hy => hx y (List.mem_cons_of_mem _ hy)⟩
      rcases insJ_mem.1 hy with rfl | hy
      · exact hz
      · exact h.1 y hy
    · rename_i hz
      have hne := hx z (List.mem_cons_self ..)
      refine List.pairwise_cons.2 ⟨fun y hy => ?_, List.pairwise_cons.2 h⟩
      rcases List.mem_cons.1 hy with rfl | hy
      · omega
      · have := h.1 y hy; omega
theorem findJ_ins {L : List JE} (h : GJ L) {x : JE} (hx : findJ L x.job.id = none) (hg : GJ (insJ x L)) (id : Int) : findJ (insJ x L) id = if id = x.job.id then some x else findJ L id := by
  split
  · rename_i e
    exact (findJ_iff hg).2 ⟨insJ_mem.2 (.inl rfl), e.symm⟩
  · rename_i e
    cases k : findJ L id with
    | none =>
      refine findJ_none.2 fun y hy => ?_
      rcases insJ_mem.1 hy with rfl | hy
      · exact fun h => e h.symm
      · exact findJ_none.1 k y hy
    | some y => exact (findJ_iff hg).2 ⟨insJ_mem.2 (.inr (findJ_mem h k)), findJ_id h k⟩
theorem GJ.ins {L : List JE} (h : GJ L) {x : JE} (hx : findJ L x.job.id = none) (hg : goodJ x.job = true) (hl : x.pl.length = x.job.tasks.toNat) (hp : ∀ p ∈ x.pl, -1 ≤ p) (hf : L.length < 32) : GJ (insJ x L) :=
  ⟨insJ_ord h.ord (findJ_none.1 hx), fun e he => by rcases insJ_mem.1 he with rfl | he; exact ⟨hg, hl, hp⟩; exact h.good e he, by rw [insJ_len]; omega⟩
theorem GJ.add {L : List JE} (h : GJ L) (j : JR) : GJ (addJ L j).1 := by
  unfold addJ
  split
  · exact h
  · rename_i hg
    split
    · exact h
    · rename_i hn
      split
      · exact h
      · rename_i hf
        refine h.ins (x := ⟨j, List.replicate j.tasks.toNat (-1)⟩) (by simpa using hn) (by simpa using hg) (by simp) (fun p hp => ?_) (by omega)
        rw [List.eq_of_mem_replicate hp]; omega
theorem GJ.drop {L : List JE} (h : GJ L) (id : Int) : GJ (dropJ L id).1 := by
  unfold dropJ
  split
  · exact h
  · exact ⟨h.ord.filter _, fun e he => h.good e (List.mem_filter.1 he).1, Nat.le_trans (List.length_filter_le _ _) h.few⟩
theorem setJ_id (id : Int) (k : Nat) (p : Int) (e : JE) : (if e.job.id = id then (⟨e.job, e.pl.set k p⟩ : JE) else e).job = e.job := by split <;> rfl
theorem GJ.setJ {L : List JE} (h : GJ L) (id : Int) (k : Nat) {p : Int} (hp : -1 ≤ p) : GJ (setJ L id k p) := by
  unfold Go.Proofs.YtbfbhlpibclccaaDoor.setJ
  refine ⟨?_, fun e he => ?_, by rw [List.length_map]; exact h.few⟩
  · rw [List.pairwise_map]
    exact h.ord.imp fun {a b} hab => by rw [setJ_id, setJ_id]; exact hab
  · obtain ⟨z, hz, rfl⟩ := List.mem_map.1 he
    obtain ⟨h1, h2, h3⟩ := h.good z hz
    split
    · refine ⟨h1, by simpa using h2, fun x hx => ?_⟩
      rcases List.mem_or_eq_of_mem_set hx with hx | rfl
      · exact h3 x hx
      · exact hp
    · exact ⟨h1, h2, h3⟩
theorem findJ_set (L : List JE) (id : Int) (k : Nat) (p : Int) (j : Int) : findJ (setJ L id k p) j = (findJ L j).map fun e => if e.job.id = id then ⟨e.job, e.pl.set k p⟩ else e := by
  unfold findJ setJ
  simp only [List.find?_map]
  congr 2
  funext e
  simp only [Function.comp]
  split <;> rfl
theorem GJ.put {L : List JE} (h : GJ L) (t : Tk) (p : Int) : GJ (putJ L t p).1 := by
  unfold putJ
  cases findJ L t.job with
  | none => exact h
  | some e =>
    simp only
    split
    · exact h
    · rename_i h1
      split
      · exact h
      · exact h.setJ _ _ (by omega)
theorem GJ.wait {L : List JE} (h : GJ L) (t : Tk) : GJ (waitJ L t).1 := by
  unfold waitJ
  cases findJ L t.job with
  | none => exact h
  | some e =>
    simp only
    split
    · exact h
    · split
      · exact h
      · exact h.setJ _ _ (by omega)

/-! ### rows of tasks -/
theorem rowT_zero (sel : JE → Int → Bool) (e : JE) : rowT sel e 0 = [] := rfl
theorem rowT_succ (sel : JE → Int → Bool) (e : JE) (k : Nat) : rowT sel e (k + 1) = if sel e (plAt e k) = true then rowT sel e k ++ [⟨e.job.id, (k : Int)⟩] else rowT sel e k := by
  unfold rowT
  rw [List.range_succ, List.filter_append, List.map_append, List.filter_cons]
  split <;> simp
theorem tasksJ_succ (sel : JE → Int → Bool) {L : List JE} {i : Nat} {e : JE} (h : L[i]? = some e) : tasksJ sel (L.take (i + 1)) = tasksJ sel (L.take i) ++ rowT sel e e.pl.length := by
  unfold tasksJ
  rw [List.take_add_one, h, List.flatMap_append]
  simp
theorem rowT_len (sel : JE → Int → Bool) (e : JE) (k : Nat) : (rowT sel e k).length ≤ k := by
  unfold rowT
  rw [List.length_map]
  exact Nat.le_trans (List.length_filter_le _ _) (by simp)
theorem tasksJ_len (sel : JE → Int → Bool) {L : List JE} (h : ∀ e ∈ L, e.pl.length ≤ 8) : (tasksJ sel L).length ≤ 8 * L.length := by
  induction L with
  | nil => exact Nat.zero_le _
  | cons e L ih =>
    have h1 := ih fun y hy => h y (List.mem_cons_of_mem _ hy)
    have h2 := rowT_len sel e e.pl.length
    have h3 := h e (List.mem_cons_self ..)
    unfold tasksJ at h1 ⊢
    rw [List.flatMap_cons, List.length_append, List.length_cons]
    omega
theorem rowT_mem {sel : JE → Int → Bool} {e : JE} {k : Nat} {t : Tk} (h : t ∈ rowT sel e k) : ∃ j : Nat, j < k ∧ t = ⟨e.job.id, (j : Int)⟩ ∧ sel e (plAt e j) = true := by
  unfold rowT at h
  obtain ⟨j, hj, rfl⟩ := List.mem_map.1 h
  obtain ⟨h1, h2⟩ := List.mem_filter.1 hj
  exact ⟨j, List.mem_range.1 h1, rfl, h2⟩
theorem tasksJ_mem {sel : JE → Int → Bool} {L : List JE} {t : Tk} (h : t ∈ tasksJ sel L) : ∃ e ∈ L, ∃ j : Nat, j < e.pl.length ∧ t = ⟨e.job.id, (j : Int)⟩ ∧ sel e (plAt e j) = true := by
  unfold tasksJ at h
  obtain ⟨e, he, ht⟩ := List.mem_flatMap.1 h
  exact ⟨e, he, rowT_mem ht⟩
/-- Where a task of the rows is. -/
theorem whereJ_of {L : List JE} (h : GJ L) {e : JE} (he : e ∈ L) {j : Nat} (hj : j < e.pl.length) : whereJ L ⟨e.job.id, (j : Int)⟩ = plAt e j := by
  unfold whereJ
  rw [show findJ L (⟨e.job.id, (j : Int)⟩ : Tk).job = some e from (findJ_iff h).2 ⟨he, rfl⟩]
  simp only
  rw [if_neg (by omega), Int.toNat_natCast]
theorem tasksJ_where {sel : JE → Int → Bool} {p : Int} (hs : ∀ e q, sel e q = true → q = p) {L : List JE} (h : GJ L) {t : Tk} (ht : t ∈ tasksJ sel L) : whereJ L t = p := by
  obtain ⟨e, he, j, hj, rfl, k⟩ := tasksJ_mem ht
  rw [whereJ_of h he hj]
  exact hs e _ k
theorem selW_is (e : JE) (q : Int) (h : selW e q = true) : q = -1 := by simpa [selW] using h
theorem selA_is (p : Int) (e : JE) (q : Int) (h : selA p e q = true) : q = p := by simp [selA] at h; exact h.2
theorem rowT_ord (sel : JE → Int → Bool) (e : JE) (k : Nat) : (rowT sel e k).Pairwise lessT := by
  induction k with
  | zero => exact List.Pairwise.nil
  | succ k ih =>
    rw [rowT_succ]
    split
    · refine List.pairwise_append.2 ⟨ih, List.pairwise_singleton _ _, fun a ha b hb => ?_⟩
      obtain ⟨j, hj, rfl, _⟩ := rowT_mem ha
      rw [List.mem_singleton.1 hb]
      exact .inr ⟨rfl, by simp only; omega⟩
    · exact ih
theorem tasksJ_ord (sel : JE → Int → Bool) {L : List JE} (h : L.Pairwise fun a b => a.job.id < b.job.id) : (tasksJ sel L).Pairwise lessT := by
  induction L with
  | nil => exact List.Pairwise.nil
  | cons e L ih =>
    rw [List.pairwise_cons] at h
    unfold tasksJ at ih ⊢
    rw [List.flatMap_cons]
    refine List.pairwise_append.2 ⟨rowT_ord sel e _, ih h.2, fun a ha b hb => ?_⟩
    obtain ⟨j, _, rfl, _⟩ := rowT_mem ha
    obtain ⟨f, hf, i, _, rfl, _⟩ := tasksJ_mem (L := L) (sel := sel) (by unfold tasksJ; exact hb)
    exact .inl (h.1 f hf)
end Go.Proofs.YtbfbhlpibclccaaDoor
