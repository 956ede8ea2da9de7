/- Sets of envelopes and the tasks inside, told plainly: what each call answers and makes of them. No conditions. -/
import Derived.Test.YtlckofoabnnlhaaDoorCoV
import Derived.Test.YtlckofoabnnlhaaDoorFtM
namespace Go.Proofs.YtlckofoabnnlhaaDoor
open Go

/-- A task. -/
structure Tk where
  job : Int
  ix : Int
theorem Tk.eq {x y : Tk} (h1 : x.job = y.job) (h2 : x.ix = y.ix) : x = y := by cases x; cases y; simp only at h1 h2; rw [h1, h2]
instance : DecidableEq Tk := fun x y => if h : x.job = y.job ∧ x.ix = y.ix then isTrue (Tk.eq h.1 h.2) else isFalse fun e => h (by rw [e]; exact ⟨rfl, rfl⟩)
instance : Inhabited Tk := ⟨⟨0, 0⟩⟩
/-- A set of envelopes. -/
structure SetA where
  id : Int
  n : Nat
  has : V4
  up : Int → Bool
/-- A task inside. -/
structure InA where
  tk : Tk
  set : Int
  pos : Int
  need : V4
/-- Sets and tasks. -/
structure AG where
  sets : List SetA
  tasks : List InA
def setA (G : AG) (id : Int) : Option SetA := G.sets.find? fun s => decide (s.id = id)
def tkA (G : AG) (t : Tk) : Option InA := G.tasks.find? fun x => decide (x.tk = t)
def inE (id pos : Int) (x : InA) : Bool := decide (x.set = id) && decide (x.pos = pos)
/-- What some need, of one resource. -/
def needN (r : Nat) (L : List InA) : Int := (L.map fun x => comp r x.need).sum
def needV (L : List InA) : V4 := ⟨needN 0 L, needN 1 L, needN 2 L, needN 3 L⟩
/-- What is left of an envelope. -/
def leftA (G : AG) (s : SetA) (pos : Int) : V4 := mv s.has (needV (G.tasks.filter (inE s.id pos)))
def lessT (x y : Tk) : Prop := x.job < y.job ∨ (x.job = y.job ∧ x.ix < y.ix)
instance (x y : Tk) : Decidable (lessT x y) := inferInstanceAs (Decidable (_ ∨ _))
/-- A task among others that are in order. -/
def insT (x : Tk) : List Tk → List Tk
  | [] => [x]
  | y :: r => if lessT y x then y :: insT x r else x :: y :: r
def sortT (L : List Tk) : List Tk := L.foldl (fun o x => insT x o) []
def insideA (G : AG) (id pos : Int) : List Tk := sortT ((G.tasks.filter (inE id pos)).map (·.tk))
def spotsA (G : AG) (s : SetA) (k : Nat) : List Spt := ((List.range k).filter fun (i : Nat) => s.up (i : Int)).map fun (i : Nat) => ⟨(i : Int), leftA G s (i : Int)⟩

def SetA.turn (s : SetA) (pos : Int) (b : Bool) : SetA := ⟨s.id, s.n, s.has, fun k => if k = pos then b else s.up k⟩
def openA (G : AG) (id n : Int) (has : V4) : AG × Nat :=
  if id < 1 ∨ 999 < id ∨ n < 1 ∨ 8 < n ∨ goodV has = false then (G, 1)
  else if (setA G id).isSome = true then (G, 6)
  else if 8 ≤ G.sets.length then (G, 7)
  else (⟨G.sets ++ [⟨id, n.toNat, has, fun _ => false⟩], G.tasks⟩, 0)
def closeA (G : AG) (id : Int) : AG × Nat :=
  if (setA G id).isSome = false then (G, 5)
  else if G.tasks.any (fun x => decide (x.set = id)) = true then (G, 13)
  else (⟨G.sets.filter fun s => !decide (s.id = id), G.tasks⟩, 0)
def turnG (G : AG) (id pos : Int) (b : Bool) : AG :=
  ⟨G.sets.map fun s => if s.id = id then s.turn pos b else s, G.tasks.filter fun x => !inE id pos x⟩
def turnA (G : AG) (id pos : Int) (b : Bool) : AG × Nat :=
  match setA G id with
  | none => (G, 5)
  | some s => if pos < 0 ∨ (s.n : Int) ≤ pos then (G, 1) else if s.up pos = b then (G, 13) else (turnG G id pos b, 0)
def putA (G : AG) (t : Tk) (id pos : Int) (need : V4) : AG × Nat :=
  match setA G id with
  | none => (G, 5)
  | some s => if (pos < 0 ∨ (s.n : Int) ≤ pos) ∨ goodV need = false then (G, 1) else if s.up pos = false then (G, 13) else if (tkA G t).isSome = true then (G, 6)
    else if fitsV need (leftA G s pos) = false then (G, 10) else (⟨G.sets, G.tasks ++ [⟨t, id, pos, need⟩]⟩, 0)
def takeG (G : AG) (t : Tk) : AG := ⟨G.sets, G.tasks.filter fun x => !decide (x.tk = t)⟩
def takeA (G : AG) (t : Tk) : AG × Nat := if (tkA G t).isSome = false then (G, 5) else (takeG G t, 0)

/-- What holds of all that the calls have made. -/
structure GA (G : AG) : Prop where
  ids : G.sets.Pairwise fun a b => a.id ≠ b.id
  tks : G.tasks.Pairwise fun a b => a.tk ≠ b.tk
  set : ∀ s ∈ G.sets, 1 ≤ s.id ∧ s.id ≤ 999 ∧ 1 ≤ s.n ∧ s.n ≤ 8 ∧ goodV s.has = true
  task : ∀ x ∈ G.tasks, goodV x.need = true ∧ ∃ s, setA G x.set = some s ∧ 0 ≤ x.pos ∧ x.pos < (s.n : Int) ∧ s.up x.pos = true
  left : ∀ s ∈ G.sets, ∀ pos, goodV (leftA G s pos) = true
  few : G.sets.length ≤ 8

/-! ### by key -/
theorem find_key {α κ : Type} [DecidableEq κ] (f : α → κ) {L : List α} (h : L.Pairwise fun a b => f a ≠ f b) {x : α} {k : κ} : L.find? (fun s => decide (f s = k)) = some x ↔ x ∈ L ∧ f x = k := by
  induction L with
  | nil => simp
  | cons y L ih =>
    rw [List.pairwise_cons] at h
    rw [List.find?_cons]
    by_cases e : f y = k
    · simp only [e, decide_true, Option.some.injEq, List.mem_cons]
      constructor
      · rintro rfl; exact ⟨.inl rfl, e⟩
      · rintro ⟨rfl | hm, hx⟩
        · rfl
        · exact absurd (e.trans hx.symm) (h.1 x hm)
    · simp only [e, decide_false, ih h.2, List.mem_cons]
      constructor
      · rintro ⟨h1, h2⟩; exact ⟨.inr h1, h2⟩
      · rintro ⟨rfl | h1, h2⟩
        · exact absurd h2 e
        · exact ⟨h1, h2⟩
theorem find_none {α κ : Type} [DecidableEq κ] (f : α → κ) {L : List α} {k : κ} : L.find? (fun s => decide (f s = k)) = none ↔ ∀ x ∈ L, f x ≠ k := by
  rw [List.find?_eq_none]; simp
theorem find_filter {α κ : Type} [DecidableEq κ] (f : α → κ) {L : List α} (k j : κ) : (L.filter fun s => !decide (f s = k)).find? (fun s => decide (f s = j)) = if j = k then none else L.find? fun s => decide (f s = j) := by
  by_cases e : j = k
  · subst e
    rw [if_pos rfl, find_none]
    intro x hx
    simpa using (List.mem_filter.1 hx).2
  · rw [if_neg e]
    induction L with
    | nil => rfl
    | cons y L ih =>
      rw [List.filter_cons]
      by_cases h : f y = k
      · have : ¬ f y = j := fun h2 => e (h2.symm.trans h)
        simp only [h, decide_true, Bool.not_true, Bool.false_eq_true, if_false, List.find?_cons]
        rw [ih]
        have : decide (k = j) = false := decide_eq_false fun h => e h.symm
        rw [this]
      · simp only [h, decide_false, Bool.not_false, if_true, List.find?_cons, ih]
theorem cut_filter {α κ : Type} [DecidableEq κ] (f : α → κ) {L : List α} (h : L.Pairwise fun a b => f a ≠ f b) {i : Nat} {x : α} (hi : L[i]? = some x) : L.take i ++ L.drop (i + 1) = L.filter fun s => !decide (f s = f x) := by
  induction L generalizing i with
  | nil => cases hi
  | cons y L ih =>
    rw [List.pairwise_cons] at h
    cases i with
    | zero =>
      simp only [List.getElem?_cons_zero, Option.some.injEq] at hi
      subst hi
      rw [List.filter_cons]
      simp only [decide_true, Bool.not_true, Bool.false_eq_true, if_false, List.take_zero, List.nil_append, Nat.zero_add, List.drop_succ_cons, List.drop_zero]
      exact (List.filter_eq_self.2 fun z hz => by simpa using fun e => h.1 z hz e.symm).symm
    | succ i =>
      simp only [List.getElem?_cons_succ] at hi
      have hne : ¬ f y = f x := h.1 x (List.mem_of_getElem? hi)
      rw [List.take_succ_cons, List.drop_succ_cons, List.filter_cons, List.cons_append, ih h.2 hi]
      simp [hne]
theorem set_iff {G : AG} (h : GA G) {id : Int} {s : SetA} : setA G id = some s ↔ s ∈ G.sets ∧ s.id = id := find_key SetA.id h.ids
theorem set_none {G : AG} {id : Int} : setA G id = none ↔ ∀ s ∈ G.sets, s.id ≠ id := find_none SetA.id
theorem tk_iff {G : AG} (h : GA G) {t : Tk} {x : InA} : tkA G t = some x ↔ x ∈ G.tasks ∧ x.tk = t := find_key InA.tk h.tks
theorem tk_none {G : AG} {t : Tk} : tkA G t = none ↔ ∀ x ∈ G.tasks, x.tk ≠ t := find_none InA.tk
theorem set_id {G : AG} (h : GA G) {id : Int} {s : SetA} (e : setA G id = some s) : s.id = id := ((set_iff h).1 e).2
theorem set_mem {G : AG} (h : GA G) {id : Int} {s : SetA} (e : setA G id = some s) : s ∈ G.sets := ((set_iff h).1 e).1

/-! ### sums -/
theorem comp_needV (r : Nat) (L : List InA) : comp r (needV L) = needN r L := by rcases r with _ | _ | _ | r <;> rfl
theorem needN_cons (r : Nat) (x : InA) (L : List InA) : needN r (x :: L) = comp r x.need + needN r L := by unfold needN; rw [List.map_cons, List.sum_cons]
theorem needN_app (r : Nat) (L M : List InA) : needN r (L ++ M) = needN r L + needN r M := by unfold needN; rw [List.map_append, List.sum_append]
theorem needN_nil (r : Nat) : needN r [] = 0 := rfl
theorem needN_pos (r : Nat) {L : List InA} (h : ∀ x ∈ L, goodV x.need = true) : 0 ≤ needN r L := by
  induction L with
  | nil => exact Int.le_refl _
  | cons x L ih =>
    rw [needN_cons]
    have h1 := ih fun y hy => h y (List.mem_cons_of_mem _ hy)
    have h2 := good_comp.1 (h x (List.mem_cons_self ..)) r
    omega
theorem needN_filter (r : Nat) (p : InA → Bool) {L : List InA} (h : ∀ x ∈ L, goodV x.need = true) : needN r (L.filter p) ≤ needN r L := by
  induction L with
  | nil => exact Int.le_refl _
  | cons x L ih =>
    have h1 := ih fun y hy => h y (List.mem_cons_of_mem _ hy)
    have h2 := good_comp.1 (h x (List.mem_cons_self ..)) r
    rw [List.filter_cons, needN_cons]
    split
    · rw [needN_cons]; omega
    · omega
theorem needN_take (r : Nat) {L : List InA} (h : ∀ x ∈ L, goodV x.need = true) (i : Nat) : needN r (L.take i) ≤ needN r L := by
  have e : needN r L = needN r (L.take i) + needN r (L.drop i) := by rw [← needN_app, List.take_append_drop]
  have := needN_pos r (L := L.drop i) fun x hx => h x (List.mem_of_mem_drop hx)
  omega
theorem comp_left (G : AG) (s : SetA) (pos : Int) (r : Nat) : comp r (leftA G s pos) = comp r s.has - needN r (G.tasks.filter (inE s.id pos)) := by unfold leftA; rw [comp_mv, comp_needV]
/-- The sum less one. -/
theorem needN_less (r : Nat) {L : List InA} (h : L.Pairwise fun a b => a.tk ≠ b.tk) {x : InA} (hx : x ∈ L) : needN r (L.filter fun y => !decide (y.tk = x.tk)) = needN r L - comp r x.need := by
  induction L with
  | nil => cases hx
  | cons y L ih =>
    rw [List.pairwise_cons] at h
    rw [List.filter_cons, needN_cons]
    rcases List.mem_cons.1 hx with rfl | hm
    · simp only [decide_true, Bool.not_true, Bool.false_eq_true, if_false]
      rw [List.filter_eq_self.2 fun z hz => by simpa using fun e => h.1 z hz e.symm]
      omega
    · have : ¬ y.tk = x.tk := h.1 x hm
      simp only [this, decide_false, Bool.not_false, if_true]
      rw [needN_cons, ih h.2 hm]; omega

/-! ### what holds stays so -/
theorem GA.empty : GA ⟨[], []⟩ := ⟨List.Pairwise.nil, List.Pairwise.nil, fun _ h => (by cases h), fun _ h => (by cases h), fun _ h => (by cases h), Nat.zero_le _⟩
theorem GA.need {G : AG} (h : GA G) : ∀ x ∈ G.tasks, goodV x.need = true := fun x hx => (h.task x hx).1
/-- Tasks are left out. -/
theorem GA.less {G : AG} (h : GA G) (p : InA → Bool) : GA ⟨G.sets, G.tasks.filter p⟩ where
  ids := h.ids
  tks := h.tks.filter p
  set := h.set
  task := fun x hx => h.task x (List.mem_filter.1 hx).1
  left := fun s hs pos => good_comp.2 fun r => by
    have h1 := good_comp.1 (h.left s hs pos) r
    have h2 := good_comp.1 (h.set s hs).2.2.2.2 r
    rw [comp_left] at h1 ⊢
    have h3 := needN_filter r p (L := G.tasks.filter (inE s.id pos)) fun x hx => h.need x (List.mem_filter.1 hx).1
    have h4 := needN_pos r (L := (G.tasks.filter p).filter (inE s.id pos)) fun x hx => h.need x (List.mem_filter.1 (List.mem_filter.1 hx).1).1
    simp only at h4 ⊢
    rw [List.filter_filter] at h3 h4 ⊢
    have e : (fun a => p a && inE s.id pos a) = fun a => inE s.id pos a && p a := by funext a; rw [Bool.and_comm]
    rw [e] at h3
    omega
  few := h.few
theorem GA.take {G : AG} (h : GA G) (t : Tk) : GA (takeA G t).1 := by
  unfold takeA; split
  · exact h
  · exact h.less _
theorem left_none {G : AG} {s : SetA} {pos : Int} (h : ∀ x ∈ G.tasks, inE s.id pos x = false) : leftA G s pos = s.has := by
  apply comp_ext; intro r
  rw [comp_left, List.filter_eq_nil_iff.2 fun x hx => by simp [h x hx], needN_nil]; omega
theorem GA.open {G : AG} (h : GA G) (id n : Int) (has : V4) : GA (openA G id n has).1 := by
  unfold openA
  split
  · exact h
  · rename_i h1
    split
    · exact h
    · rename_i h2
      split
      · exact h
      · rename_i h3
        have hno : ∀ s ∈ G.sets, s.id ≠ id := set_none.1 (by cases e : setA G id with | none => rfl | some s => rw [e] at h2; exact absurd rfl h2)
        have hg : goodV has = true := by cases e : goodV has with | true => rfl | false => exact absurd (.inr (.inr (.inr (.inr e)))) h1
        have hnt : ∀ x ∈ G.tasks, x.set ≠ id := fun x hx e => by
          obtain ⟨_, s, hs, _⟩ := h.task x hx
          exact hno s (set_mem h hs) ((set_id h hs).trans e)
        have hids : (G.sets ++ [(⟨id, n.toNat, has, fun _ => false⟩ : SetA)]).Pairwise fun a b => a.id ≠ b.id := List.pairwise_append.2 ⟨h.ids, List.pairwise_singleton _ _, fun a ha b hb => by rw [List.mem_singleton.1 hb]; exact hno a ha⟩
        refine ⟨hids, h.tks, fun s hs => ?_, fun x hx => ?_, fun s hs pos => ?_, by simp only [List.length_append, List.length_singleton]; omega⟩
        · rcases List.mem_append.1 hs with hm | hm
          · exact h.set s hm
          · rw [List.mem_singleton.1 hm]; simp only; exact ⟨by omega, by omega, by omega, by omega, hg⟩
        · obtain ⟨k1, s, hs, k2⟩ := h.task x hx
          refine ⟨k1, s, ?_, k2⟩
          exact (find_key SetA.id hids).2 ⟨List.mem_append_left _ (set_mem h hs), set_id h hs⟩
        · rcases List.mem_append.1 hs with hm | hm
          · exact h.left s hm pos
          · rw [List.mem_singleton.1 hm]
            rw [left_none fun x hx => by unfold inE; simp [hnt x hx]]
            exact hg
theorem GA.close {G : AG} (h : GA G) (id : Int) : GA (closeA G id).1 := by
  unfold closeA
  split
  · exact h
  · split
    · exact h
    · rename_i h2
      have hno : ∀ x ∈ G.tasks, x.set ≠ id := by simpa using h2
      refine ⟨h.ids.filter _, h.tks, fun s hs => h.set s (List.mem_filter.1 hs).1, fun x hx => ?_, fun s hs => h.left s (List.mem_filter.1 hs).1, Nat.le_trans (List.length_filter_le _ _) h.few⟩
      obtain ⟨k1, s, hs, k2⟩ := h.task x hx
      refine ⟨k1, s, ?_, k2⟩
      show (G.sets.filter _).find? _ = _
      rw [find_filter SetA.id, if_neg (hno x hx)]
      exact hs
theorem turn_id (s : SetA) (pos : Int) (b : Bool) : (s.turn pos b).id = s.id := rfl
theorem turn_set {G : AG} (id pos : Int) (b : Bool) (j : Int) : setA (turnG G id pos b) j = (setA G j).map fun s => if s.id = id then s.turn pos b else s := by
  unfold setA turnG
  simp only [List.find?_map]
  congr 2
  funext s
  simp only [Function.comp]
  split <;> rfl
theorem left_turn {G : AG} (_h : GA G) {id pos : Int} {b : Bool} {s : SetA} (j : Int) : leftA (turnG G id pos b) s j = if s.id = id ∧ j = pos then s.has else leftA G s j := by
  apply comp_ext; intro r
  split
  · rename_i e
    obtain ⟨rfl, rfl⟩ := e
    rw [left_none]
    intro x hx
    have := (List.mem_filter.1 hx).2
    simpa using this
  · rename_i e
    rw [comp_left, comp_left]
    congr 2
    show (G.tasks.filter _).filter _ = _
    rw [List.filter_filter]
    apply List.filter_congr
    intro x _
    unfold inE
    by_cases e1 : x.set = s.id
    · by_cases e2 : x.pos = j
      · have : ¬ (s.id = id ∧ j = pos) := e
        rw [e1, e2]
        simp only [decide_true, Bool.and_self, Bool.true_and, Bool.not_and, Bool.or_eq_true, Bool.not_eq_true', decide_eq_false_iff_not]
        by_cases e3 : s.id = id
        · exact .inr fun e4 => this ⟨e3, e4⟩
        · exact .inl e3
      · simp [e2]
    · simp [e1]
theorem GA.turnG {G : AG} (h : GA G) {id pos : Int} {b : Bool} {s0 : SetA} (_hs0 : setA G id = some s0) (_hu : s0.up pos = !b) : GA (turnG G id pos b) where
  ids := by
    show (G.sets.map _).Pairwise _
    rw [List.pairwise_map]
    refine h.ids.imp fun {x y} hxy => ?_
    have k : ∀ s : SetA, (if s.id = id then s.turn pos b else s).id = s.id := fun s => by split <;> rfl
    rw [k, k]; exact hxy
  tks := h.tks.filter _
  set := fun s hs => by
    obtain ⟨z, hz, rfl⟩ := List.mem_map.1 hs
    have := h.set z hz
    split <;> exact this
  task := fun x hx => by
    obtain ⟨hx1, hx2⟩ := List.mem_filter.1 hx
    obtain ⟨k1, s, hs, k2, k3, k4⟩ := h.task x hx1
    refine ⟨k1, (if s.id = id then s.turn pos b else s), by rw [turn_set, hs]; rfl, ?_⟩
    split
    · rename_i e
      refine ⟨k2, k3, ?_⟩
      show (if x.pos = pos then b else s.up x.pos) = true
      rw [if_neg]
      · exact k4
      · intro e2
        have : x.set = id := (set_id h hs).symm.trans e
        simp [inE, this, e2] at hx2
    · exact ⟨k2, k3, k4⟩
  left := fun s hs j => by
    obtain ⟨z, hz, rfl⟩ := List.mem_map.1 hs
    have e : goodV (leftA (Go.Proofs.YtlckofoabnnlhaaDoor.turnG G id pos b) z j) = true := by
      rw [left_turn h]
      split
      · exact (h.set z hz).2.2.2.2
      · exact h.left z hz j
    have e2 : ∀ G' : AG, leftA G' (if z.id = id then z.turn pos b else z) j = leftA G' z j := fun G' => by split <;> rfl
    rw [e2]; exact e
  few := by show (G.sets.map _).length ≤ 8; rw [List.length_map]; exact h.few
theorem GA.turn {G : AG} (h : GA G) (id pos : Int) (b : Bool) : GA (turnA G id pos b).1 := by
  unfold turnA
  cases e : setA G id with
  | none => exact h
  | some s =>
    simp only
    split
    · exact h
    · split
      · exact h
      · rename_i k; exact h.turnG e (by cases b <;> simpa using k)
theorem left_put {G : AG} {s : SetA} {t : Tk} {id pos j : Int} {need : V4} : leftA ⟨G.sets, G.tasks ++ [⟨t, id, pos, need⟩]⟩ s j = if s.id = id ∧ j = pos then mv (leftA G s j) need else leftA G s j := by
  apply comp_ext; intro r
  rw [comp_left]
  show _ - needN r ((G.tasks ++ _).filter _) = _
  rw [List.filter_append, needN_app]
  split
  · rename_i e
    obtain ⟨rfl, rfl⟩ := e
    rw [comp_mv, comp_left, List.filter_cons]
    simp only [inE, decide_true, Bool.and_self, if_true, List.filter_nil]
    rw [needN_cons, needN_nil, show comp r (⟨t, s.id, j, need⟩ : InA).need = comp r need from rfl]; omega
  · rename_i e
    rw [comp_left, List.filter_cons]
    have : inE s.id j (⟨t, id, pos, need⟩ : InA) = false := by
      unfold inE
      simp only
      by_cases e1 : id = s.id
      · by_cases e2 : pos = j
        · exact absurd ⟨e1.symm, e2.symm⟩ e
        · simp [e2]
      · simp [e1]
    rw [this]
    simp only [Bool.false_eq_true, if_false, List.filter_nil]
    rw [needN_nil]; omega
theorem GA.put {G : AG} (h : GA G) (t : Tk) (id pos : Int) (need : V4) : GA (putA G t id pos need).1 := by
  unfold putA
  cases e : setA G id with
  | none => exact h
  | some s =>
    simp only
    split
    · exact h
    · rename_i h1
      split
      · exact h
      · rename_i h2
        split
        · exact h
        · rename_i h3
          split
          · exact h
          · rename_i h4
            have hg : goodV need = true := by cases k : goodV need with | true => rfl | false => exact absurd (.inr k) h1
            have hf : fitsV need (leftA G s pos) = true := by cases k : fitsV need (leftA G s pos) with | true => rfl | false => exact absurd k h4
            have hno : ∀ x ∈ G.tasks, x.tk ≠ t := tk_none.1 (by cases k : tkA G t with | none => rfl | some s => rw [k] at h3; exact absurd rfl h3)
            refine ⟨h.ids, List.pairwise_append.2 ⟨h.tks, List.pairwise_singleton _ _, fun a ha b hb => by rw [List.mem_singleton.1 hb]; exact hno a ha⟩, h.set, fun x hx => ?_, fun z hz j => ?_, h.few⟩
            · rcases List.mem_append.1 hx with hm | hm
              · exact h.task x hm
              · rw [List.mem_singleton.1 hm]
                exact ⟨hg, s, e, by simp only; omega, by simp only; omega, by simpa using h2⟩
            · rw [left_put]
              split
              · rename_i k
                obtain rfl : z = s := by
                  have := (set_iff h).2 ⟨hz, k.1⟩
                  rw [e] at this; exact (Option.some.inj this).symm
                rw [k.2]
                refine good_comp.2 fun r => ?_
                have k1 := good_comp.1 (h.left z hz pos) r
                have k2 := good_comp.1 hg r
                have k3 := fits_comp.1 hf r
                rw [comp_mv]; omega
              · exact h.left z hz j
end Go.Proofs.YtlckofoabnnlhaaDoor
