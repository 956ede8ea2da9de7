/- Counts of evictions, plain: what a row of evictions counts, and the pairs of a map that tell it. No conditions. -/
import Derived.Test.YtbfbhlpibclccaaDoorKeyN
namespace Go.Proofs.YtbfbhlpibclccaaDoor
open Go Go.RowKit Go.Maps

/-- An eviction. -/
structure Ev where
  job : Int
  win : Int
  frc : Bool
/-- A job in a window. -/
structure K2 where
  job : Int
  win : Int
deriving DecidableEq
theorem K2.eq {x y : K2} (h1 : x.job = y.job) (h2 : x.win = y.win) : x = y := by
  obtain ⟨a, b⟩ := x; obtain ⟨c, d⟩ := y
  simp only at h1 h2; subst h1 h2; rfl
/-- A count. -/
structure Ct where
  job : Int
  win : Int
  free : Int
  forced : Int
instance : Inhabited Ct := ⟨⟨0, 0, 0, 0⟩⟩
theorem Ct.eq {x y : Ct} (h1 : x.job = y.job) (h2 : x.win = y.win) (h3 : x.free = y.free) (h4 : x.forced = y.forced) : x = y := by
  obtain ⟨a, b, c, d⟩ := x; obtain ⟨a', b', c', d'⟩ := y
  simp only at h1 h2 h3 h4; subst h1 h2 h3 h4; rfl
def isE (j w : Int) (f : Bool) (e : Ev) : Bool := decide (e.job = j) && decide (e.win = w) && (e.frc == f)
theorem isE_iff {j w : Int} {f : Bool} {e : Ev} : isE j w f e = true ↔ e.job = j ∧ e.win = w ∧ e.frc = f := by
  unfold isE; simp [and_assoc]
/-- How many of a job in a window. -/
def cntE (E : List Ev) (j w : Int) (f : Bool) : Nat := (E.filter (isE j w f)).length
theorem cntE_nil (j w : Int) (f : Bool) : cntE [] j w f = 0 := rfl
theorem cntE_snoc (E : List Ev) (e : Ev) (j w : Int) (f : Bool) : cntE (E ++ [e]) j w f = cntE E j w f + (if isE j w f e = true then 1 else 0) := by
  unfold cntE
  rw [List.filter_append, List.length_append]
  cases h : isE j w f e <;> simp [h]
theorem cntE_cons (E : List Ev) (e : Ev) (j w : Int) (f : Bool) : cntE (e :: E) j w f = (if isE j w f e = true then 1 else 0) + cntE E j w f := by
  unfold cntE
  cases h : isE j w f e <;> simp [h]
  omega
theorem cntE_le (E : List Ev) (j w : Int) (f : Bool) : cntE E j w f ≤ E.length := List.length_filter_le _ _
theorem cntE_take {E : List Ev} {i : Nat} {e : Ev} (h : E[i]? = some e) (j w : Int) (f : Bool) : cntE (E.take (i + 1)) j w f = cntE (E.take i) j w f + (if isE j w f e = true then 1 else 0) := by
  have e1 : E.take (i + 1) = E.take i ++ [e] := by rw [List.take_add_one, h]; rfl
  rw [e1, cntE_snoc]
def keyE (e : Ev) : K2 := ⟨e.job, e.win⟩
theorem isE_key {j w : Int} {f : Bool} {e : Ev} (h : isE j w f e = true) : keyE e = ⟨j, w⟩ := by
  obtain ⟨h1, h2, _⟩ := isE_iff.1 h
  unfold keyE; rw [h1, h2]
/-- Without those that a predicate names. -/
def lessE (pd : K2 → Bool) (E : List Ev) : List Ev := E.filter fun e => !pd (keyE e)
theorem cntE_less (pd : K2 → Bool) (E : List Ev) (j w : Int) (f : Bool) : cntE (lessE pd E) j w f = if pd ⟨j, w⟩ = true then 0 else cntE E j w f := by
  unfold cntE lessE
  rw [List.filter_filter]
  cases h : pd ⟨j, w⟩ with
  | true =>
    rw [if_pos rfl, List.length_eq_zero_iff, List.filter_eq_nil_iff]
    intro e _ hk
    rw [Bool.and_eq_true] at hk
    rw [isE_key hk.1, h] at hk
    simp at hk
  | false =>
    rw [if_neg (by simp)]
    congr 1
    refine List.filter_congr fun e _ => ?_
    cases hk : isE j w f e with
    | false => simp
    | true => rw [isE_key hk, h]; rfl
/-- What is counted of a job in a window. -/
def ctE (E : List Ev) (k : K2) : Ct := ⟨k.job, k.win, cntE E k.job k.win false, cntE E k.job k.win true⟩
def z0C : Ct := ⟨0, 0, 0, 0⟩
/-- The map's pairs tell what the row of evictions counts. -/
def SI (T : List (K2 × Ct)) (E : List Ev) : Prop := ∀ k, look T k = if cntE E k.job k.win false + cntE E k.job k.win true = 0 then none else some (ctE E k)
theorem SI.nil : SI [] [] := fun _ => rfl
section
variable {T : List (K2 × Ct)} {E : List Ev}
theorem SI.free (h : SI T E) (k : K2) : ((look T k).getD z0C).free = (cntE E k.job k.win false : Int) := by
  rw [h k]; split
  · show (0 : Int) = _; omega
  · rfl
theorem SI.forced (h : SI T E) (k : K2) : ((look T k).getD z0C).forced = (cntE E k.job k.win true : Int) := by
  rw [h k]; split
  · show (0 : Int) = _; omega
  · rfl
theorem SI.add (h : SI T E) (e : Ev) : SI (enter T (keyE e) (ctE (E ++ [e]) (keyE e))) (E ++ [e]) := fun k => by
  rw [look_enter]
  by_cases hk : k = keyE e
  · subst hk
    rw [if_pos rfl, if_neg]
    have h1 : isE (keyE e).job (keyE e).win e.frc e = true := isE_iff.2 ⟨rfl, rfl, rfl⟩
    rw [cntE_snoc, cntE_snoc]
    cases hf : e.frc <;> rw [hf] at h1 <;> rw [h1, if_pos rfl] <;> omega
  · rw [if_neg hk, h k]
    have h1 : ∀ f, isE k.job k.win f e = false := fun f => by
      cases hc : isE k.job k.win f e with
      | false => rfl
      | true => exact absurd (isE_key hc).symm hk
    have h2 : ∀ f, cntE (E ++ [e]) k.job k.win f = cntE E k.job k.win f := fun f => by rw [cntE_snoc, h1 f]; simp
    unfold ctE
    rw [h2, h2]
theorem look_keep (pd : K2 → Bool) : ∀ (T : List (K2 × Ct)) (k : K2), look (T.filter fun p => !pd p.1) k = if pd k = true then none else look T k
  | [], k => by simp [look]
  | (a, v) :: T, k => by
    have ih := look_keep pd T k
    cases ha : pd a with
    | true =>
      have e : ((a, v) :: T).filter (fun p => !pd p.1) = T.filter (fun p => !pd p.1) := by simp [ha]
      rw [e, ih, look_cons]
      by_cases hk : k = a
      · subst hk; simp [ha]
      · rw [if_neg hk]
    | false =>
      have e : ((a, v) :: T).filter (fun p => !pd p.1) = (a, v) :: T.filter (fun p => !pd p.1) := by simp [ha]
      rw [e, look_cons, look_cons, ih]
      by_cases hk : k = a
      · subst hk; simp [ha]
      · rw [if_neg hk, if_neg hk]
theorem SI.keep (h : SI T E) (pd : K2 → Bool) : SI (T.filter fun p => !pd p.1) (lessE pd E) := fun k => by
  rw [look_keep, h k]
  unfold ctE
  rw [cntE_less, cntE_less]
  cases hp : pd k with
  | true => simp
  | false => simp
def sumC (v : Ct) : Int := v.free + v.forced
theorem len_split (E : List Ev) (k : K2) : E.length = cntE E k.job k.win false + cntE E k.job k.win true + (lessE (fun x => decide (x = k)) E).length := by
  induction E with
  | nil => rfl
  | cons e E ih =>
    rw [cntE_cons, cntE_cons]
    by_cases hk : keyE e = k
    · have h1 : lessE (fun x => decide (x = k)) (e :: E) = lessE (fun x => decide (x = k)) E := by unfold lessE; simp [hk]
      have h2 : isE k.job k.win e.frc e = true := isE_iff.2 ⟨by rw [← hk]; rfl, by rw [← hk]; rfl, rfl⟩
      have h3 : isE k.job k.win (!e.frc) e = false := by
        cases hc : isE k.job k.win (!e.frc) e with
        | false => rfl
        | true => have := (isE_iff.1 hc).2.2; cases hf : e.frc <;> rw [hf] at this <;> simp at this
      rw [h1, List.length_cons]
      cases hf : e.frc <;> rw [hf] at h2 h3 <;> simp only [Bool.not_false, Bool.not_true] at h3 <;> rw [h2, h3] <;> simp <;> omega
    · have h1 : lessE (fun x => decide (x = k)) (e :: E) = e :: lessE (fun x => decide (x = k)) E := by unfold lessE; simp [hk]
      have h2 : ∀ f, isE k.job k.win f e = false := fun f => by
        cases hc : isE k.job k.win f e with
        | false => rfl
        | true => exact absurd (isE_key hc) hk
      rw [h1, h2, h2, List.length_cons, List.length_cons]; simp; omega
theorem SI.tot : ∀ {T : List (K2 × Ct)} {E : List Ev}, SI T E → Apart T → totK (fun _ v => sumC v) T = (E.length : Int)
  | [], E, h, _ => by
    cases E with
    | nil => rfl
    | cons e E =>
      have := h (keyE e)
      have h1 : isE (keyE e).job (keyE e).win e.frc e = true := isE_iff.2 ⟨rfl, rfl, rfl⟩
      rw [cntE_cons, cntE_cons] at this
      rw [if_neg (by cases hf : e.frc <;> rw [hf] at h1 <;> rw [h1, if_pos rfl] <;> omega)] at this
      cases this
  | (a, v) :: T, E, h, ha => by
    have hv : v = ctE E a := by
      have := h a
      rw [look_cons, if_pos rfl] at this
      split at this
      · cases this
      · exact Option.some.inj this
    have hT : SI T (lessE (fun x => decide (x = a)) E) := fun k => by
      have hk := h k
      unfold ctE
      rw [cntE_less, cntE_less]
      by_cases e : k = a
      · subst e
        rw [ha.1]; simp
      · rw [look_cons, if_neg e] at hk
        have : (fun x => decide (x = a)) (⟨k.job, k.win⟩ : K2) = false := decide_eq_false e
        simp only [this]
        rw [hk]; simp [ctE]
    have ih := SI.tot hT ha.2
    have hl := len_split E a
    rw [totK_cons, ih, hv]
    show ((cntE E a.job a.win false : Int) + (cntE E a.job a.win true : Int)) + _ = _
    omega
theorem SI.pos (h : SI T E) (ha : Apart T) : ∀ p ∈ T, 1 ≤ sumC p.2 := fun p hp => by
  have := h p.1
  rw [mem_look ha (show (p.1, p.2) ∈ T from hp)] at this
  split at this
  · cases this
  · rw [Option.some.inj this]
    show (1 : Int) ≤ (cntE E p.1.job p.1.win false : Int) + (cntE E p.1.job p.1.win true : Int)
    omega
theorem totK_len : ∀ (T : List (K2 × Ct)), (∀ p ∈ T, 1 ≤ sumC p.2) → (T.length : Int) ≤ totK (fun _ v => sumC v) T
  | [], _ => Int.le_refl _
  | (a, v) :: T, h => by
    have h1 := totK_len T fun p hp => h p (List.mem_cons_of_mem _ hp)
    have h2 := h (a, v) (List.mem_cons_self ..)
    rw [totK_cons, List.length_cons]
    simp only at h2 ⊢
    omega
theorem SI.few (h : SI T E) (ha : Apart T) : T.length ≤ E.length := by
  have h1 := totK_len T (h.pos ha)
  rw [h.tot ha] at h1
  omega
theorem SI.at (h : SI T E) (ha : Apart T) {p : K2 × Ct} (hp : p ∈ T) : p.2 = ctE E p.1 := by
  have := h p.1
  rw [mem_look ha (show (p.1, p.2) ∈ T from hp)] at this
  split at this
  · cases this
  · exact Option.some.inj this
/-- By job, then by window. -/
def ltC (x y : Ct) : Prop := x.job < y.job ∨ (x.job = y.job ∧ x.win < y.win)
def valQ (T : List (K2 × Ct)) (k : K2) : Ct := (look T k).getD z0C
def keyC (c : Ct) : K2 := ⟨c.job, c.win⟩
theorem totK_map (f : Ct → Int) : ∀ T : List (K2 × Ct), totK (fun _ v => f v) T = ((T.map (·.2)).map f).sum
  | [] => rfl
  | (a, v) :: T => by rw [totK_cons, totK_map f T]; simp
/-- The counts in order: each is what the row counts, none twice, and their sum is all. -/
theorem SI.listed (h : SI T E) (ha : Apart T) {M : List Ct} {ks : List K2} (hk : ks.Perm (T.map (·.1))) (hM : M.Perm (ks.map (valQ T))) (ho : M.Pairwise fun a b => ¬ ltC b a) :
    (∀ c ∈ M, c = ctE E (keyC c)) ∧ M.Pairwise ltC ∧ (M.map sumC).sum = (E.length : Int) ∧ M.length = T.length := by
  have hp : M.Perm (T.map (·.2)) := by
    refine hM.trans ((hk.map (valQ T)).trans ?_)
    rw [List.map_map]
    refine List.Perm.of_eq (List.map_congr_left fun p hp => ?_)
    show (look T p.1).getD z0C = p.2
    rw [mem_look ha (show (p.1, p.2) ∈ T from hp)]; rfl
  have hkey : ∀ p ∈ T, keyC p.2 = p.1 := fun p hp => by rw [h.at ha hp]; rfl
  refine ⟨fun c hc => ?_, ?_, ?_, by rw [hp.length_eq, List.length_map]⟩
  · obtain ⟨p, hpT, rfl⟩ := List.mem_map.1 (hp.mem_iff.1 hc)
    rw [hkey p hpT]; exact h.at ha hpT
  · have hn : (T.map (·.2)).Pairwise fun a b => keyC a ≠ keyC b := by
      have h1 := ha.nodup
      rw [List.nodup_iff_pairwise_ne, List.pairwise_map] at h1
      rw [List.pairwise_map]
      refine h1.imp_of_mem fun {a b} h2 h3 h4 => ?_
      rw [hkey a h2, hkey b h3]; exact h4
    have hm : M.Pairwise fun a b => keyC a ≠ keyC b := (hp.symm.pairwise_iff (fun {a b} h => Ne.symm h)).1 hn
    refine (ho.and hm).imp fun {a b} ⟨h1, h2⟩ => ?_
    unfold ltC at h1 ⊢
    by_cases e1 : a.job = b.job
    · by_cases e2 : a.win = b.win
      · exact absurd (K2.eq (x := keyC a) (y := keyC b) e1 e2) h2
      · omega
    · omega
  · rw [← h.tot ha, totK_map]
    exact perm_sumI (hp.map sumC)
end
end Go.Proofs.YtbfbhlpibclccaaDoor
