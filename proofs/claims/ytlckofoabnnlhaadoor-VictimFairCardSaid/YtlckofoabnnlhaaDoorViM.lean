/- Victims, told plainly: who may go for a band, who goes for a demand, where it goes. No conditions. -/
import Derived.Test.YtlckofoabnnlhaaDoorAlM
namespace Go.Proofs.YtlckofoabnnlhaaDoor
open Go

/-- A guest. -/
structure Gst where
  task : Tk
  band : Int
  env : Bool
  need : V4
/-- A host, or a room: its guests lie at the address A. -/
structure Hst where
  id : Int
  left : V4
  on : List Gst
  A : Option Addr
  c : Nat
def Hst.spt (h : Hst) : Spt := ⟨h.id, h.left⟩
/-- Who may go for a band. -/
def candG (band : Int) (g : Gst) : Bool := decide (band < g.band) && !g.env
/-- A host whose vectors are valid. -/
def okH (h : Hst) : Bool := goodV h.left && h.on.all fun g => goodV g.need
/-- Hosts that are valid. -/
def validH (H : List Hst) : Bool := H.all okH && decide (H.map (·.id)).Nodup
/-- A sum, each resource at most what a vector can have. -/
def capM (x : Int) : Int := if 1099511627776 < x then 1099511627776 else x
def moreV (x y : V4) : V4 := ⟨capM (x.a + y.a), capM (x.b + y.b), capM (x.c + y.c), capM (x.d + y.d)⟩
/-- How many of a job have gone. -/
def cntJ (j : Int) (out : List Gst) : Nat := out.countP fun g => decide (g.task.job = j)
/-- One more candidate. -/
def stepK (x : V4) (al : Int → Int) (s : V4 × List Gst) (g : Gst) : V4 × List Gst :=
  if fitsV x s.1 = true ∨ al g.task.job ≤ (cntJ g.task.job s.2 : Int) then s else (moreV s.1 g.need, s.2 ++ [g])
/-- What is left of a host behind its victims, and they. -/
def clearK (x : V4) (al : Int → Int) (left : V4) (line : List Gst) : V4 × List Gst := line.foldl (stepK x al) (left, [])
theorem clearK_take {x : V4} {al : Int → Int} {left : V4} {line : List Gst} {k : Nat} {g : Gst} (h : line[k]? = some g) : clearK x al left (line.take (k + 1)) = stepK x al (clearK x al left (line.take k)) g := by
  unfold clearK
  rw [List.take_add_one, h, Option.toList_some, List.foldl_append]
  rfl
/-- One more room. -/
def stepF (x : V4) (al : Int → Int) (i : Nat) (r : Hst) (b : Option (Nat × Hst × List Gst)) : Option (Nat × Hst × List Gst) :=
  if fitsV x (clearK x al r.left r.on).1 = true then
    (match b with
      | none => some (i, r, (clearK x al r.left r.on).2)
      | some (a, t, o) => if (clearK x al r.left r.on).2.length < o.length ∨ ((clearK x al r.left r.on).2.length = o.length ∧ r.id < t.id) then some (i, r, (clearK x al r.left r.on).2) else some (a, t, o))
  else b
/-- The room where the fewest go. -/
def fewK (x : V4) (al : Int → Int) (R : List Hst) : Option (Nat × Hst × List Gst) := R.zipIdx.foldl (fun b p => stepF x al p.2 p.1 b) none
theorem fewK_nil (x : V4) (al : Int → Int) : fewK x al [] = none := rfl
theorem fewK_snoc (x : V4) (al : Int → Int) (R : List Hst) (r : Hst) : fewK x al (R ++ [r]) = stepF x al R.length r (fewK x al R) := by
  unfold fewK
  rw [List.zipIdx_append, List.foldl_append]
  simp
theorem fewK_take {x : V4} {al : Int → Int} {R : List Hst} {k : Nat} {r : Hst} (h : R[k]? = some r) : fewK x al (R.take (k + 1)) = stepF x al k r (fewK x al (R.take k)) := by
  have hk := (List.getElem?_eq_some_iff.1 h).1
  rw [List.take_add_one, h, Option.toList_some, fewK_snoc, List.length_take, Nat.min_eq_left (Nat.le_of_lt hk)]
/-- What the chosen room is. -/
theorem fewK_at (x : V4) (al : Int → Int) : ∀ (n : Nat) (R : List Hst), R.length = n → ∀ a t o, fewK x al R = some (a, t, o) → R[a]? = some t ∧ o = (clearK x al t.left t.on).2 ∧ fitsV x (clearK x al t.left t.on).1 = true
  | 0, R, hR, a, t, o, h => by rw [List.eq_nil_of_length_eq_zero hR, fewK_nil] at h; cases h
  | n + 1, R, hR, a, t, o, h => by
    obtain ⟨M, r, rfl⟩ : ∃ M r, R = M ++ [r] := ⟨R.dropLast, R.getLast (by intro e; rw [e] at hR; simp at hR), (List.dropLast_concat_getLast _).symm⟩
    have hM : M.length = n := by simpa using hR
    rw [fewK_snoc] at h
    unfold stepF at h
    have old : ∀ a t o, fewK x al M = some (a, t, o) → (M ++ [r])[a]? = some t ∧ o = (clearK x al t.left t.on).2 ∧ fitsV x (clearK x al t.left t.on).1 = true := fun a t o e => by
      obtain ⟨h1, h2, h3⟩ := fewK_at x al n M hM a t o e
      exact ⟨by rw [List.getElem?_append_left (List.getElem?_eq_some_iff.1 h1).1]; exact h1, h2, h3⟩
    split at h
    · rename_i hf
      split at h
      · cases h
        exact ⟨by simp, rfl, hf⟩
      · rename_i a' t' o' e
        split at h
        · cases h
          exact ⟨by simp, rfl, hf⟩
        · cases h
          exact old _ _ _ e
    · exact old _ _ _ h
/-- There is none where none has room even then. -/
theorem fewK_none (x : V4) (al : Int → Int) : ∀ (n : Nat) (R : List Hst), R.length = n → (fewK x al R = none ↔ ∀ r ∈ R, fitsV x (clearK x al r.left r.on).1 = false)
  | 0, R, hR => by rw [List.eq_nil_of_length_eq_zero hR, fewK_nil]; simp
  | n + 1, R, hR => by
    obtain ⟨M, r, rfl⟩ : ∃ M r, R = M ++ [r] := ⟨R.dropLast, R.getLast (by intro e; rw [e] at hR; simp at hR), (List.dropLast_concat_getLast _).symm⟩
    have ih := fewK_none x al n M (by simpa using hR)
    rw [fewK_snoc]
    unfold stepF
    split
    · rename_i hf
      have hno : ¬ ∀ q ∈ M ++ [r], fitsV x (clearK x al q.left q.on).1 = false := fun h => by
        have := h r (by simp)
        rw [hf] at this; cases this
      constructor
      · intro h
        split at h
        · cases h
        · split at h <;> cases h
      · intro h; exact absurd h hno
    · rename_i hf
      rw [ih]
      constructor
      · intro h q hq
        rcases List.mem_append.1 hq with hq | hq
        · exact h q hq
        · rw [List.mem_singleton] at hq
          subst hq
          simpa using hf
      · intro h q hq
        exact h q (List.mem_append_left _ hq)
/-- The allowance of a job. -/
structure Spr where
  job : Int
  left : Int
def alS : List Spr → Int → Int
  | [], _ => 0
  | s :: r, j => if s.job = j then max s.left 0 else alS r j
/-- One that no job uses up. -/
def alInf (_ : Int) : Int := 9223372036854775807
/-- Where a task goes, who goes for it, and which error. -/
def pickK (valid : Bool) (x : V4) (al : Int → Int) (R : List Hst) : Int × List Gst × Nat :=
  if valid = true ∧ goodV x = true then
    (match bestS x (R.map Hst.spt) with
      | some (_, t) => (t.id, [], 0)
      | none => match fewK x al R with
        | some (_, r, o) => (r.id, o, 0)
        | none => if (fewK x alInf R).isSome then (0, [], 11) else (0, [], 10))
  else (0, [], 1)
/-- The rooms of hosts: each has its host's candidates, in some order. -/
def Lined (band : Int) (H R : List Hst) : Prop := R.length = H.length ∧ ∀ (i : Nat) (h r : Hst), H[i]? = some h → R[i]? = some r → r.id = h.id ∧ r.left = h.left ∧ r.on.Perm (h.on.filter (candG band))
/-- What Pick may answer. -/
def PickR (H : List Hst) (x : V4) (band : Int) (S : List Spr) (host : Int) (out : List Gst) (er : Nat) : Prop := ∃ R, Lined band H R ∧ (host, out, er) = pickK (validH H) x (alS S) R
end Go.Proofs.YtlckofoabnnlhaaDoor
