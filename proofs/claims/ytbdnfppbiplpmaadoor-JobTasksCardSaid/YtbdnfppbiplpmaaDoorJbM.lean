/- Jobs and where their tasks are, told plainly: what each call answers and makes of them. No conditions. -/
import Derived.Test.YtbdnfppbiplpmaaDoorAlM
namespace Go.Proofs.YtbdnfppbiplpmaaDoor
open Go

/-- A job. -/
structure JR where
  id : Int
  tenant : Int
  cell : Int
  band : Int
  tasks : Int
  need : V4
  first : Int
  windows : Int
  budget : Int
  env : Bool
  set : Int
/-- A job, and where its tasks are. -/
structure JE where
  job : JR
  pl : List Int
def inB (n a b : Int) : Bool := decide (a ≤ n) && decide (n ≤ b)
def goodJ (j : JR) : Bool :=
  decide ((scaleR j.need j.tasks).2 = 0) && inB j.id 1 999 && inB j.tenant 1 999 && inB j.cell 1 4 && inB j.band 0 2 && inB j.tasks 1 8 && inB j.first 0 1073741824 && inB j.windows 1 8 && inB j.budget 0 100 && (decide (j.set = 0) || (!j.env && inB j.set 1 999))
def findJ (L : List JE) (id : Int) : Option JE := L.find? fun e => decide (e.job.id = id)
def insJ (x : JE) : List JE → List JE
  | [] => [x]
  | y :: r => if y.job.id < x.job.id then y :: insJ x r else x :: y :: r
def addJ (L : List JE) (j : JR) : List JE × Nat :=
  if goodJ j = false then (L, 1) else if (findJ L j.id).isSome = true then (L, 6) else if 32 ≤ L.length then (L, 7) else (insJ ⟨j, List.replicate j.tasks.toNat (-1)⟩ L, 0)
def dropJ (L : List JE) (id : Int) : List JE × Nat := if (findJ L id).isSome = false then (L, 5) else (L.filter (fun e => !decide (e.job.id = id)), 0)
def setJ (L : List JE) (id : Int) (k : Nat) (p : Int) : List JE := L.map fun e => if e.job.id = id then ⟨e.job, e.pl.set k p⟩ else e
def plAt (e : JE) (k : Nat) : Int := e.pl.getD k (-1)
/-- What a search for a task tells: its error. -/
def findE5 (L : List JE) (t : Tk) : Nat := match findJ L t.job with
  | none => 5
  | some e => if t.ix < 0 ∨ (e.pl.length : Int) ≤ t.ix then 1 else 0
def putJ (L : List JE) (t : Tk) (p : Int) : List JE × Nat := match findJ L t.job with
  | none => (L, 5)
  | some e => if (t.ix < 0 ∨ (e.pl.length : Int) ≤ t.ix) ∨ p < 0 then (L, 1) else if plAt e t.ix.toNat ≠ -1 then (L, 13) else (setJ L t.job t.ix.toNat p, 0)
def waitJ (L : List JE) (t : Tk) : List JE × Nat := match findJ L t.job with
  | none => (L, 5)
  | some e => if t.ix < 0 ∨ (e.pl.length : Int) ≤ t.ix then (L, 1) else if plAt e t.ix.toNat = -1 then (L, 13) else (setJ L t.job t.ix.toNat (-1), 0)
def whereJ (L : List JE) (t : Tk) : Int := match findJ L t.job with
  | none => -1
  | some e => if t.ix < 0 ∨ (e.pl.length : Int) ≤ t.ix then -1 else plAt e t.ix.toNat
/-- Those tasks of a job that are so, the first k looked at. -/
def rowT (sel : JE → Int → Bool) (e : JE) (k : Nat) : List Tk := ((List.range k).filter fun (j : Nat) => sel e (plAt e j)).map fun (j : Nat) => ⟨e.job.id, (j : Int)⟩
def tasksJ (sel : JE → Int → Bool) (L : List JE) : List Tk := L.flatMap fun e => rowT sel e e.pl.length
def selW : JE → Int → Bool := fun _ p => decide (p = -1)
def selA (q : Int) : JE → Int → Bool := fun e p => decide (e.job.set = 0) && decide (p = q)

/-- What holds of all that the calls have made. -/
structure GJ (L : List JE) : Prop where
  ord : L.Pairwise fun a b => a.job.id < b.job.id
  good : ∀ e ∈ L, goodJ e.job = true ∧ e.pl.length = e.job.tasks.toNat ∧ ∀ p ∈ e.pl, -1 ≤ p
  few : L.length ≤ 32

/-! ### by number -/
theorem inB_iff {n a b : Int} : inB n a b = true ↔ a ≤ n ∧ n ≤ b := by unfold inB; simp
theorem GJ.ne {L : List JE} (h : GJ L) : L.Pairwise fun a b => a.job.id ≠ b.job.id := h.ord.imp fun {_ _} h => by omega
theorem findJ_iff {L : List JE} (h : GJ L) {id : Int} {e : JE} : findJ L id = some e ↔ e ∈ L ∧ e.job.id = id := find_key (fun e : JE => e.job.id) h.ne
theorem findJ_none {L : List JE} {id : Int} : findJ L id = none ↔ ∀ e ∈ L, e.job.id ≠ id := find_none (fun e : JE => e.job.id)
theorem findJ_id {L : List JE} (h : GJ L) {id : Int} {e : JE} (k : findJ L id = some e) : e.job.id = id := ((findJ_iff h).1 k).2
theorem findJ_mem {L : List JE} (h : GJ L) {id : Int} {e : JE} (k : findJ L id = some e) : e ∈ L := ((findJ_iff h).1 k).1
theorem GJ.nodup {L : List JE} (h : GJ L) : (L.map fun e => e.job.id).Nodup := List.pairwise_map.2 h.ne
theorem GJ.nil : GJ [] := ⟨List.Pairwise.nil, fun _ h => (by cases h), Nat.zero_le _⟩
theorem goodJ_nums {j : JR} (h : goodJ j = true) : (1 ≤ j.id ∧ j.id ≤ 999) ∧ (1 ≤ j.tasks ∧ j.tasks ≤ 8) := by
  unfold goodJ at h
  simp only [Bool.and_eq_true, inB_iff] at h
  omega
theorem GJ.len {L : List JE} (h : GJ L) {e : JE} (he : e ∈ L) : 1 ≤ e.pl.length ∧ e.pl.length ≤ 8 := by
  obtain ⟨h1, h2, _⟩ := h.good e he
  obtain ⟨_, h3, h4⟩ := goodJ_nums h1
  omega
theorem plAt_get {e : JE} {k : Nat} {p : Int} (h : e.pl[k]? = some p) : plAt e k = p := by unfold plAt; rw [List.getD_eq_getElem?_getD, h]; rfl
theorem plAt_lt {e : JE} {k : Nat} (h : k < e.pl.length) : e.pl[k]? = some (plAt e k) := by
  obtain ⟨p, hp⟩ : ∃ p, e.pl[k]? = some p := ⟨_, List.getElem?_eq_getElem h⟩
  rw [hp, plAt_get hp]
theorem plAt_ge {L : List JE} (h : GJ L) {e : JE} (he : e ∈ L) (k : Nat) : -1 ≤ plAt e k := by
  unfold plAt
  rw [List.getD_eq_getElem?_getD]
  cases hk : e.pl[k]? with
  | none => simp
  | some p => exact (h.good e he).2.2 p (List.mem_of_getElem? hk)

/-! ### what the calls make stays good -/
theorem insJ_mem {x y : JE} : ∀ {L : List JE}, y ∈ insJ x L ↔ y = x ∨ y ∈ L
  | [] => by simp [insJ]
  | z :: L => by
    unfold insJ
    split
    · rw [List.mem_cons, insJ_mem, List.mem_cons]; constructor <;> (intro h; rcases h with h | h | h <;> simp [h])
    · simp
theorem insJ_len (x : JE) : ∀ L : List JE, (insJ x L).length = L.length + 1
  | [] => rfl
  | z :: L => by unfold insJ; split <;> simp [insJ_len x L]
theorem insJ_ord {x : JE} : ∀ {L : List JE}, L.Pairwise (fun a b => a.job.id < b.job.id) → (∀ y ∈ L, y.job.id ≠ x.job.id) → (insJ x L).Pairwise fun a b => a.job.id < b.job.id
  | [], _, _ => by simp [insJ]
  | z :: L, h, hx => by
    rw [List.pairwise_cons] at h
    unfold insJ
    split
    · rename_i hz
      refine List.pairwise_cons.2 ⟨fun y hy => ?_, insJ_ord h.2 fun y hy => hx y (List.mem_cons_of_mem _ hy)⟩
      rcases insJ_mem.1 hy with rfl | hy
      · exact hz
      · exact h.1 y hy
    · rename_i hz
      have hne := hx z (List.mem_cons_self ..)
      refine List.pairwise_cons.2 ⟨fun y hy => ?_, List.pairwise_cons.2 h⟩
      rcases List.mem_cons.1 hy with rfl | hy
      · omega
      · have := h.1 y hy; omega
theorem findJ_ins {L : List JE} (h : GJ L) {x : JE} (hx : findJ L x.job.id = none) (hg : GJ (insJ x L)) (id : Int) : findJ (insJ x L) id = if id = x.job.id then some x else findJ L id := by
  split
  · rename_i e
    exact (findJ_iff hg).2 ⟨insJ_mem.2 (.inl rfl), e.symm⟩
  · rename_i e
    cases k : findJ L id with
    | none =>
      refine findJ_none.2 fun y hy => ?_
      rcases insJ_mem.1 hy with rfl | hy
      · exact fun h => e h.symm
      · exact findJ_none.1 k y hy
    | some y => exact (findJ_iff hg).2 ⟨insJ_mem.2 (.inr (findJ_mem h k)), findJ_id h k⟩
theorem GJ.ins {L : List JE} (h : GJ L) {x : JE} (hx : findJ L x.job.id = none) (hg : goodJ x.job = true) (hl : x.pl.length = x.job.tasks.toNat) (hp : ∀ p ∈ x.pl, -1 ≤ p) (hf : L.length < 32) : GJ (insJ x L) :=
  ⟨insJ_ord h.ord (findJ_none.1 hx), fun e he => by rcases insJ_mem.1 he with rfl | he; exact ⟨hg, hl, hp⟩; exact h.good e he, by rw [insJ_len]; omega⟩
theorem GJ.add {L : List JE} (h : GJ L) (j : JR) : GJ (addJ L j).1 := by
  unfold addJ
  split
  · exact h
  · rename_i hg
    split
    · exact h
    · rename_i hn
      split
      · exact h
      · rename_i hf
        refine h.ins (x := ⟨j, List.replicate j.tasks.toNat (-1)⟩) (by simpa using hn) (by simpa using hg) (by simp) (fun p hp => ?_) (by omega)
        rw [List.eq_of_mem_replicate hp]; omega
theorem GJ.drop {L : List JE} (h : GJ L) (id : Int) : GJ (dropJ L id).1 := by
  unfold dropJ
  split
  · exact h
  · exact ⟨h.ord.filter _, fun e he => h.good e (List.mem_filter.1 he).1, Nat.le_trans (List.length_filter_le _ _) h.few⟩
theorem setJ_id (id : Int) (k : Nat) (p : Int) (e : JE) : (if e.job.id = id then (⟨e.job, e.pl.set k p⟩ : JE) else e).job = e.job := by split <;> rfl
theorem GJ.setJ {L : List JE} (h : GJ L) (id : Int) (k : Nat) {p : Int} (hp : -1 ≤ p) : GJ (setJ L id k p) := by
  unfold Go.Proofs.YtbdnfppbiplpmaaDoor.setJ
  refine ⟨?_, fun e he => ?_, by rw [List.length_map]; exact h.few⟩
  · rw [List.pairwise_map]
    exact h.ord.imp fun {a b} hab => by rw [setJ_id, setJ_id]; exact hab
  · obtain ⟨z, hz, rfl⟩ := List.mem_map.1 he
    obtain ⟨h1, h2, h3⟩ := h.good z hz
    split
    · refine ⟨h1, by simpa using h2, fun x hx => ?_⟩
      rcases List.mem_or_eq_of_mem_set hx with hx | rfl
      · exact h3 x hx
      · exact hp
    · exact ⟨h1, h2, h3⟩
theorem findJ_set (L : List JE) (id : Int) (k : Nat) (p : Int) (j : Int) : findJ (setJ L id k p) j = (findJ L j).map fun e => if e.job.id = id then ⟨e.job, e.pl.set k p⟩ else e := by
  unfold findJ setJ
  simp only [List.find?_map]
  congr 2
  funext e
  simp only [Function.comp]
  split <;> rfl
theorem GJ.put {L : List JE} (h : GJ L) (t : Tk) (p : Int) : GJ (putJ L t p).1 := by
  unfold putJ
  cases findJ L t.job with
  | none => exact h
  | some e =>
    simp only
    split
    · exact h
    · rename_i h1
      split
      · exact h
      · exact h.setJ _ _ (by omega)
theorem GJ.wait {L : List JE} (h : GJ L) (t : Tk) : GJ (waitJ L t).1 := by
  unfold waitJ
  cases findJ L t.job with
  | none => exact h
  | some e =>
    simp only
    split
    · exact h
    · split
      · exact h
      · exact h.setJ _ _ (by omega)

/-! ### rows of tasks -/
theorem rowT_zero (sel : JE → Int → Bool) (e : JE) : rowT sel e 0 = [] := rfl
theorem rowT_succ (sel : JE → Int → Bool) (e : JE) (k : Nat) : rowT sel e (k + 1) = if sel e (plAt e k) = true then rowT sel e k ++ [⟨e.job.id, (k : Int)⟩] else rowT sel e k := by
  unfold rowT
  rw [List.range_succ, List.filter_append, List.map_append, List.filter_cons]
  split <;> simp
theorem tasksJ_succ (sel : JE → Int → Bool) {L : List JE} {i : Nat} {e : JE} (h : L[i]? = some e) : tasksJ sel (L.take (i + 1)) = tasksJ sel (L.take i) ++ rowT sel e e.pl.length := by
  unfold tasksJ
  rw [List.take_add_one, h, List.flatMap_append]
  simp
theorem rowT_len (sel : JE → Int → Bool) (e : JE) (k : Nat) : (rowT sel e k).length ≤ k := by
  unfold rowT
  rw [List.length_map]
  exact Nat.le_trans (List.length_filter_le _ _) (by simp)
theorem tasksJ_len (sel : JE → Int → Bool) {L : List JE} (h : ∀ e ∈ L, e.pl.length ≤ 8) : (tasksJ sel L).length ≤ 8 * L.length := by
  induction L with
  | nil => exact Nat.zero_le _
  | cons e L ih =>
    have h1 := ih fun y hy => h y (List.mem_cons_of_mem _ hy)
    have h2 := rowT_len sel e e.pl.length
    have h3 := h e (List.mem_cons_self ..)
    unfold tasksJ at h1 ⊢
    rw [List.flatMap_cons, List.length_append, List.length_cons]
    omega
theorem rowT_mem {sel : JE → Int → Bool} {e : JE} {k : Nat} {t : Tk} (h : t ∈ rowT sel e k) : ∃ j : Nat, j < k ∧ t = ⟨e.job.id, (j : Int)⟩ ∧ sel e (plAt e j) = true := by
  unfold rowT at h
  obtain ⟨j, hj, rfl⟩ := List.mem_map.1 h
  obtain ⟨h1, h2⟩ := List.mem_filter.1 hj
  exact ⟨j, List.mem_range.1 h1, rfl, h2⟩
theorem tasksJ_mem {sel : JE → Int → Bool} {L : List JE} {t : Tk} (h : t ∈ tasksJ sel L) : ∃ e ∈ L, ∃ j : Nat, j < e.pl.length ∧ t = ⟨e.job.id, (j : Int)⟩ ∧ sel e (plAt e j) = true := by
  unfold tasksJ at h
  obtain ⟨e, he, ht⟩ := List.mem_flatMap.1 h
  exact ⟨e, he, rowT_mem ht⟩
/-- Where a task of the rows is. -/
theorem whereJ_of {L : List JE} (h : GJ L) {e : JE} (he : e ∈ L) {j : Nat} (hj : j < e.pl.length) : whereJ L ⟨e.job.id, (j : Int)⟩ = plAt e j := by
  unfold whereJ
  rw [show findJ L (⟨e.job.id, (j : Int)⟩ : Tk).job = some e from (findJ_iff h).2 ⟨he, rfl⟩]
  simp only
  rw [if_neg (by omega), Int.toNat_natCast]
theorem tasksJ_where {sel : JE → Int → Bool} {p : Int} (hs : ∀ e q, sel e q = true → q = p) {L : List JE} (h : GJ L) {t : Tk} (ht : t ∈ tasksJ sel L) : whereJ L t = p := by
  obtain ⟨e, he, j, hj, rfl, k⟩ := tasksJ_mem ht
  rw [whereJ_of h he hj]
  exact hs e _ k
theorem selW_is (e : JE) (q : Int) (h : selW e q = true) : q = -1 := by simpa [selW] using h
theorem selA_is (p : Int) (e : JE) (q : Int) (h : selA p e q = true) : q = p := by simp [selA] at h; exact h.2
theorem rowT_ord (sel : JE → Int → Bool) (e : JE) (k : Nat) : (rowT sel e k).Pairwise lessT := by
  induction k with
  | zero => exact List.Pairwise.nil
  | succ k ih =>
    rw [rowT_succ]
    split
    · refine List.pairwise_append.2 ⟨ih, List.pairwise_singleton _ _, fun a ha b hb => ?_⟩
      obtain ⟨j, hj, rfl, _⟩ := rowT_mem ha
      rw [List.mem_singleton.1 hb]
      exact .inr ⟨rfl, by simp only; omega⟩
    · exact ih
theorem tasksJ_ord (sel : JE → Int → Bool) {L : List JE} (h : L.Pairwise fun a b => a.job.id < b.job.id) : (tasksJ sel L).Pairwise lessT := by
  induction L with
  | nil => exact List.Pairwise.nil
  | cons e L ih =>
    rw [List.pairwise_cons] at h
    unfold tasksJ at ih ⊢
    rw [List.flatMap_cons]
    refine List.pairwise_append.2 ⟨rowT_ord sel e _, ih h.2, fun a ha b hb => ?_⟩
    obtain ⟨j, _, rfl, _⟩ := rowT_mem ha
    obtain ⟨f, hf, i, _, rfl, _⟩ := tasksJ_mem (L := L) (sel := sel) (by unfold tasksJ; exact hb)
    exact .inl (h.1 f hf)
end Go.Proofs.YtbdnfppbiplpmaaDoor
