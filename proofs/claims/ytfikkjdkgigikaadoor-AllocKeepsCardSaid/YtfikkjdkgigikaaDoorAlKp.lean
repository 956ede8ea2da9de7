/- AllocKeeps, told plainly: three envelopes of one set, what is used of each, and what becomes of one that falls and comes back. No conditions. -/
import Derived.Test.YtfikkjdkgigikaaDoorAlN
namespace Go.Proofs.YtfikkjdkgigikaaDoor
open Go Go.RowKit Go.Maps Go.Sort

def hasK : V4 := ⟨100, 100, 100, 100⟩
def setK0 : SetA := ⟨5, 3, hasK, fun _ => false⟩
def setK : SetA := ((setK0.turn 0 true).turn 1 true).turn 2 true
def gK (T : List InA) : AG := ⟨[setK], T⟩
theorem openK : openA ⟨[], []⟩ 5 3 ⟨100, 100, 100, 100⟩ = (⟨[setK0], []⟩, 0) := by rfl
theorem raiseK0 : turnA ⟨[setK0], []⟩ 5 0 true = (⟨[setK0.turn 0 true], []⟩, 0) := by rfl
theorem raiseK1 : turnA ⟨[setK0.turn 0 true], []⟩ 5 1 true = (⟨[(setK0.turn 0 true).turn 1 true], []⟩, 0) := by rfl
theorem raiseK2 : turnA ⟨[(setK0.turn 0 true).turn 1 true], []⟩ 5 2 true = (gK [], 0) := by rfl
theorem setA_K (T : List InA) : setA (gK T) 5 = some setK := rfl
theorem upK {p : Nat} (hp : p < 3) : setK.up (p : Int) = true := by
  rcases p with _ | _ | _ | p
  · rfl
  · rfl
  · rfl
  · omega
def useK (T : List InA) (p : Nat) : Int := needN 0 (T.filter (inE 5 (p : Int)))
def cntK (T : List InA) (p : Nat) : Nat := (T.filter (inE 5 (p : Int))).length
/-- The tasks behind i rounds. -/
structure InvK (i : Nat) (T : List InA) : Prop where
  el : ∀ x ∈ T, x.set = 5 ∧ (∃ p : Nat, p < 3 ∧ x.pos = (p : Int)) ∧ (∃ n : Int, 0 ≤ n ∧ n < 30 ∧ x.need = ⟨n, 0, n, 0⟩) ∧ ∃ j : Nat, j < i ∧ x.tk = ⟨100 - (j : Int), (j : Int)⟩
  tks : T.Pairwise fun a b => a.tk ≠ b.tk
  fit : ∀ p, useK T p ≤ 100
  len : T.length ≤ i
theorem InvK.nil : InvK 0 [] := ⟨fun _ h => (by cases h), List.Pairwise.nil, fun _ => by unfold useK; rw [List.filter_nil, needN_nil]; omega, Nat.zero_le _⟩
theorem InvK.skip {i : Nat} {T : List InA} (h : InvK i T) : InvK (i + 1) T :=
  ⟨fun x hx => by obtain ⟨k1, k2, k3, j, k4, k5⟩ := h.el x hx; exact ⟨k1, k2, k3, j, by omega, k5⟩, h.tks, h.fit, Nat.le_succ_of_le h.len⟩
def elK (i : Nat) (p : Nat) (n : Int) : InA := ⟨⟨100 - (i : Int), (i : Int)⟩, 5, (p : Int), ⟨n, 0, n, 0⟩⟩
theorem inE_el (i p q : Nat) (n : Int) : inE 5 (q : Int) (elK i p n) = decide (q = p) := by
  unfold inE elK
  simp only [decide_true, Bool.true_and]
  by_cases h : q = p
  · subst h; simp
  · rw [decide_eq_false h, decide_eq_false]; omega
theorem useK_app (T : List InA) (i p q : Nat) (n : Int) : useK (T ++ [elK i p n]) q = if q = p then useK T q + n else useK T q := by
  unfold useK
  rw [List.filter_append, needN_app, List.filter_cons, inE_el]
  by_cases h : q = p
  · simp only [h, decide_true, if_true, List.filter_nil, needN_cons, needN_nil]
    show _ + (n + 0) = _
    omega
  · simp only [h, decide_false, if_false, List.filter_nil, needN_nil, Bool.false_eq_true]; omega
theorem cntK_app (T : List InA) (i p q : Nat) (n : Int) : cntK (T ++ [elK i p n]) q = if q = p then cntK T q + 1 else cntK T q := by
  unfold cntK
  rw [List.filter_append, List.length_append, List.filter_cons, inE_el]
  by_cases h : q = p
  · simp only [h, decide_true, if_true, List.filter_nil, List.length_cons, List.length_nil]
  · simp only [h, decide_false, if_false, List.filter_nil, List.length_nil, Bool.false_eq_true]; omega
theorem InvK.nn {i : Nat} {T : List InA} (h : InvK i T) (q : Nat) : 0 ≤ useK T q := by
  unfold useK
  refine needN_pos 0 fun x hx => ?_
  obtain ⟨_, _, ⟨n, h0, h1, e⟩, _⟩ := h.el x (List.mem_filter.1 hx).1
  rw [e, good_iff]; simp only; omega
theorem InvK.add {i p : Nat} {n : Int} {T : List InA} (h : InvK i T) (hp : p < 3) (h0 : 0 ≤ n) (h1 : n < 30) (hf : useK T p + n ≤ 100) : InvK (i + 1) (T ++ [elK i p n]) where
  el x hx := by
    rcases List.mem_append.1 hx with h2 | h2
    · exact h.skip.el x h2
    · obtain rfl := List.mem_singleton.1 h2
      exact ⟨rfl, ⟨p, hp, rfl⟩, ⟨n, h0, h1, rfl⟩, i, Nat.lt_succ_self i, rfl⟩
  tks := List.pairwise_append.2 ⟨h.tks, List.pairwise_singleton _ _, fun a ha b hb e => by
    obtain rfl := List.mem_singleton.1 hb
    obtain ⟨_, _, _, j, hj, ej⟩ := h.el a ha
    rw [ej] at e
    have := congrArg Tk.ix e
    simp only [elK] at this
    omega⟩
  fit q := by rw [useK_app]; split; (rename_i e; subst e; exact hf); exact h.fit q
  len := by rw [List.length_append, List.length_singleton]; have := h.len; omega
theorem needK {i : Nat} {T : List InA} (h : InvK i T) (q : Nat) : needN 1 (T.filter (inE 5 (q : Int))) = 0 ∧ needN 2 (T.filter (inE 5 (q : Int))) = useK T q ∧ needN 3 (T.filter (inE 5 (q : Int))) = 0 := by
  unfold useK
  have hel : ∀ x ∈ T.filter (inE 5 (q : Int)), ∃ n : Int, x.need = ⟨n, 0, n, 0⟩ := fun x hx => by
    obtain ⟨_, _, ⟨n, _, _, e⟩, _⟩ := h.el x (List.mem_filter.1 hx).1
    exact ⟨n, e⟩
  generalize T.filter (inE 5 (q : Int)) = L at hel
  induction L with
  | nil => exact ⟨rfl, rfl, rfl⟩
  | cons x L ih =>
    obtain ⟨h1, h2, h3⟩ := ih fun y hy => hel y (List.mem_cons_of_mem _ hy)
    obtain ⟨n, e⟩ := hel x List.mem_cons_self
    rw [needN_cons, needN_cons, needN_cons, needN_cons, h1, h2, h3, e]
    simp [comp]
theorem leftK {i : Nat} {T : List InA} (h : InvK i T) (q : Nat) : leftA (gK T) setK (q : Int) = ⟨100 - useK T q, 100, 100 - useK T q, 100⟩ := by
  obtain ⟨h1, h2, h3⟩ := needK h q
  have hc := fun r => comp_left (gK T) setK (q : Int) r
  have e : ((gK T).tasks.filter (inE setK.id (q : Int))) = T.filter (inE 5 (q : Int)) := rfl
  simp only [e] at hc
  have c0 := hc 0; have c1 := hc 1; have c2 := hc 2; have c3 := hc 3
  rw [h1] at c1; rw [h2] at c2; rw [h3] at c3
  have hh : ∀ r, comp r setK.has = 100 := fun r => by rcases r with _ | _ | _ | r <;> rfl
  rw [hh] at c0 c1 c2 c3
  exact V4.eq c0 (c1.trans (by simp)) c2 (c3.trans (by simp))
theorem freshK {i : Nat} {T : List InA} (h : InvK i T) : tkA (gK T) ⟨100 - (i : Int), (i : Int)⟩ = none := tk_none.2 fun x hx e => by
  obtain ⟨_, _, _, j, hj, ej⟩ := h.el x hx
  rw [ej] at e
  have := congrArg Tk.ix e
  simp only at this
  omega
theorem posK {p : Nat} (hp : p < 3) : ¬ ((p : Int) < 0 ∨ (setK.n : Int) ≤ (p : Int)) := by
  show ¬ ((p : Int) < 0 ∨ ((3 : Nat) : Int) ≤ (p : Int))
  omega
theorem fitsK {i p : Nat} {n : Int} {T : List InA} (h : InvK i T) : fitsV ⟨n, 0, n, 0⟩ (leftA (gK T) setK (p : Int)) = decide (useK T p + n ≤ 100) := by
  rw [leftK h]
  by_cases e : useK T p + n ≤ 100
  · rw [decide_eq_true e]
    refine fits_comp.2 fun r => ?_
    rcases r with _ | _ | _ | r
    · show n ≤ 100 - useK T p; omega
    · show (0 : Int) ≤ 100; omega
    · show n ≤ 100 - useK T p; omega
    · show (0 : Int) ≤ 100; omega
  · rw [decide_eq_false e]
    cases hf : fitsV ⟨n, 0, n, 0⟩ ⟨100 - useK T p, 100, 100 - useK T p, 100⟩ with
    | false => rfl
    | true =>
      have : n ≤ 100 - useK T p := fits_comp.1 hf 0
      omega
theorem putK {i p : Nat} {n : Int} {T : List InA} (h : InvK i T) (hp : p < 3) (h0 : 0 ≤ n) (h1 : n < 30) :
    putA (gK T) ⟨100 - (i : Int), (i : Int)⟩ 5 (p : Int) ⟨n, 0, n, 0⟩ = if useK T p + n ≤ 100 then (gK (T ++ [elK i p n]), 0) else (gK T, 10) := by
  unfold putA
  rw [setA_K]
  simp only
  have hg : goodV ⟨n, 0, n, 0⟩ = true := by rw [good_iff]; simp only; omega
  rw [if_neg (by rw [hg]; simpa using posK hp), if_neg (by rw [upK hp]; simp), if_neg (by rw [freshK h]; simp), fitsK h]
  by_cases e : useK T p + n ≤ 100
  · rw [if_pos e, if_neg (by rw [decide_eq_true e]; simp)]; rfl
  · rw [if_neg e, if_pos (by rw [decide_eq_false e])]
theorem putK6 {p i : Nat} {T : List InA} {x : InA} (hx : x ∈ T) (he : x.tk = ⟨100 - (i : Int), (i : Int)⟩) (hp : p < 3) : putA (gK T) ⟨100 - (i : Int), (i : Int)⟩ 5 (p : Int) ⟨0, 0, 0, 0⟩ = (gK T, 6) := by
  unfold putA
  rw [setA_K]
  simp only
  have hg : goodV ⟨0, 0, 0, 0⟩ = true := by decide
  have ht : (tkA (gK T) ⟨100 - (i : Int), (i : Int)⟩).isSome = true := by
    cases e : tkA (gK T) ⟨100 - (i : Int), (i : Int)⟩ with
    | some y => rfl
    | none => exact absurd he (tk_none.1 e x hx)
  rw [if_neg (by rw [hg]; simpa using posK hp), if_neg (by rw [upK hp]; simp), if_pos ht]
theorem spotsK {i : Nat} {T : List InA} (h : InvK i T) : spotsOf (gK T) 5 = (List.range 3).map fun p => ⟨(p : Int), ⟨100 - useK T p, 100, 100 - useK T p, 100⟩⟩ := by
  unfold spotsOf
  rw [setA_K]
  show spotsA (gK T) setK 3 = _
  unfold spotsA
  rw [List.filter_eq_self.2 fun p hp => upK (List.mem_range.1 hp)]
  exact List.map_congr_left fun p _ => by rw [leftK h]
theorem insideK_len (T : List InA) (p : Nat) : (insideA (gK T) 5 (p : Int)).length = cntK T p := by
  unfold insideA
  rw [sortT_len, List.length_map]; rfl
/-! ### one falls and comes back -/
theorem posF {p k : Nat} (hp : p < 3) : ¬ ((p : Int) < 0 ∨ ((setK.turn (k : Int) false).n : Int) ≤ (p : Int)) := posK hp
def gF (T : List InA) (k : Nat) : AG := ⟨[setK.turn (k : Int) false], T.filter fun x => !inE 5 (k : Int) x⟩
def gR (T : List InA) (k : Nat) : AG := ⟨[(setK.turn (k : Int) false).turn (k : Int) true], T.filter fun x => !inE 5 (k : Int) x⟩
theorem fallK (T : List InA) {k : Nat} (hk : k < 3) : turnA (gK T) 5 (k : Int) false = (gF T k, 0) := by
  unfold turnA
  rw [setA_K]
  simp only
  rw [if_neg (posK hk), if_neg (by rw [upK hk]; simp)]
  rfl
theorem setA_F (T : List InA) (k : Nat) : setA (gF T k) 5 = some (setK.turn (k : Int) false) := rfl
theorem setA_R (T : List InA) (k : Nat) : setA (gR T k) 5 = some ((setK.turn (k : Int) false).turn (k : Int) true) := rfl
theorem raiseF (T : List InA) {k : Nat} (hk : k < 3) : turnA (gF T k) 5 (k : Int) true = (gR T k, 0) := by
  unfold turnA
  rw [setA_F]
  simp only
  rw [if_neg (posF hk), if_neg (by show ¬ (if (k : Int) = (k : Int) then false else _) = true; rw [if_pos rfl]; simp)]
  unfold turnG gF gR
  rw [List.filter_filter]
  congr 2
  refine List.filter_congr fun x _ => ?_
  cases inE 5 (k : Int) x <;> rfl
theorem spotsF_len (T : List InA) {k : Nat} (hk : k < 3) : (spotsOf (gF T k) 5).length = 2 := by
  unfold spotsOf
  rw [setA_F]
  show (spotsA (gF T k) (setK.turn (k : Int) false) 3).length = 2
  unfold spotsA
  rw [List.length_map]
  rcases k with _ | _ | _ | k
  · rfl
  · rfl
  · rfl
  · omega
theorem putF (T : List InA) {k : Nat} (hk : k < 3) : putA (gF T k) ⟨200, 0⟩ 5 (k : Int) ⟨0, 0, 0, 0⟩ = (gF T k, 13) := by
  unfold putA
  rw [setA_F]
  simp only
  have hg : goodV ⟨0, 0, 0, 0⟩ = true := by decide
  rw [if_neg (by rw [hg]; have := posF (k := k) hk; simp only [Bool.true_eq_false, or_false]; exact this), if_pos (by show (if (k : Int) = (k : Int) then false else _) = false; rw [if_pos rfl])]
theorem whereF {T : List InA} {i k : Nat} (h : InvK i T) {t : Tk} (ht : t ∈ insideA (gK T) 5 (k : Int)) : tkA (gF T k) t = none := tk_none.2 fun x hx e => by
  obtain ⟨y, hy, e1, e2⟩ := inside_mem.1 ht
  obtain ⟨hx1, hx2⟩ := List.mem_filter.1 hx
  have : x = y := by
    obtain ⟨a, ha, rfl⟩ := List.mem_iff_getElem.1 hx1
    obtain ⟨b, hb, rfl⟩ := List.mem_iff_getElem.1 hy
    have hp := List.pairwise_iff_getElem.1 h.tks
    rcases Nat.lt_trichotomy a b with h1 | h1 | h1
    · exact absurd (e.trans e2.symm) (hp a b ha hb h1)
    · subst h1; rfl
    · exact absurd (e2.trans e.symm) (hp b a hb ha h1)
  subst this
  rw [e1] at hx2
  simp at hx2
theorem okK {T : List InA} {i k : Nat} (h : InvK i T) (hi : i ≤ 40) {t : Tk} (ht : t ∈ insideA (gK T) 5 (k : Int)) : okT t := by
  obtain ⟨y, hy, e1, e2⟩ := inside_mem.1 ht
  obtain ⟨_, _, _, j, hj, ej⟩ := h.el y hy
  rw [← e2, ej]; unfold okT i64; simp only; omega
theorem riseK {T : List InA} {i k : Nat} (h : InvK i T) {m : Nat} {x y : Tk} (hx : (insideA (gK T) 5 (k : Int))[m]? = some x) (hy : (insideA (gK T) 5 (k : Int))[m + 1]? = some y) : x.job < y.job := by
  obtain ⟨h1, e1⟩ := List.getElem?_eq_some_iff.1 hx
  obtain ⟨h2, e2⟩ := List.getElem?_eq_some_iff.1 hy
  have hs := List.pairwise_iff_getElem.1 (sortT_spec (((gK T).tasks.filter (inE 5 (k : Int))).map (·.tk))).2 m (m + 1) h1 h2 (Nat.lt_succ_self m)
  have hn : (insideA (gK T) 5 (k : Int)).Nodup := by
    refine (sortT_spec _).1.nodup_iff.2 ?_
    refine List.pairwise_map.2 ((List.Pairwise.filter _ h.tks).imp fun {a b} hab => hab)
  have hne := List.pairwise_iff_getElem.1 hn m (m + 1) h1 h2 (Nat.lt_succ_self m)
  have hx' : x ∈ insideA (gK T) 5 (k : Int) := e1 ▸ List.getElem_mem h1
  have hy' : y ∈ insideA (gK T) 5 (k : Int) := e2 ▸ List.getElem_mem h2
  rw [e1, e2] at hne
  change ¬ lessT (insideA (gK T) 5 (k : Int))[m + 1] (insideA (gK T) 5 (k : Int))[m] at hs
  rw [e1, e2] at hs
  obtain ⟨a, ha, _, ea⟩ := inside_mem.1 hx'
  obtain ⟨b, hb, _, eb⟩ := inside_mem.1 hy'
  obtain ⟨_, _, _, ja, _, ka⟩ := h.el a ha
  obtain ⟨_, _, _, jb, _, kb⟩ := h.el b hb
  rw [ka] at ea; rw [kb] at eb
  subst ea; subst eb
  unfold lessT at hs
  simp only at hs ⊢
  by_cases e : ja = jb
  · subst e; exact absurd rfl hne
  · omega
theorem spotsR (T : List InA) {k : Nat} (hk : k < 3) : (spotsOf (gR T k) 5).length = 3 ∧ (spotsOf (gR T k) 5)[k]? = some ⟨(k : Int), hasK⟩ := by
  have hup : ∀ p : Nat, p < 3 → ((setK.turn (k : Int) false).turn (k : Int) true).up (p : Int) = true := fun p hp => by
    show (if (p : Int) = (k : Int) then true else if (p : Int) = (k : Int) then false else setK.up (p : Int)) = true
    by_cases e : (p : Int) = (k : Int)
    · rw [if_pos e]
    · rw [if_neg e, if_neg e]; exact upK hp
  have hs : spotsOf (gR T k) 5 = (List.range 3).map fun (p : Nat) => ⟨(p : Int), leftA (gR T k) ((setK.turn (k : Int) false).turn (k : Int) true) (p : Int)⟩ := by
    unfold spotsOf
    rw [setA_R]
    show spotsA (gR T k) _ 3 = _
    unfold spotsA
    rw [List.filter_eq_self.2 fun p hp => hup p (List.mem_range.1 hp)]
  rw [hs]
  refine ⟨by simp, ?_⟩
  rw [List.getElem?_map, List.getElem?_range hk, Option.map_some]
  congr 2
  exact left_none fun x hx => by
    have := (List.mem_filter.1 hx).2
    show inE 5 (k : Int) x = false
    simpa using this
theorem filt_split {α : Type} (p : α → Bool) (L : List α) : (L.filter p).length + (L.filter fun x => !p x).length = L.length := by
  induction L with
  | nil => rfl
  | cons x L ih =>
    rw [List.filter_cons, List.filter_cons, List.length_cons]
    cases p x <;> simp <;> omega
theorem cnt_all {T : List InA} {i : Nat} (h : InvK i T) : cntK T 0 + cntK T 1 + cntK T 2 = T.length := by
  have hel := fun x hx => (h.el x hx).2.1
  have hset := fun x hx => (h.el x hx).1
  clear h
  induction T with
  | nil => rfl
  | cons x T ih =>
    have ih := ih (fun y hy => hel y (List.mem_cons_of_mem _ hy)) (fun y hy => hset y (List.mem_cons_of_mem _ hy))
    obtain ⟨p, hp, e⟩ := hel x List.mem_cons_self
    have e5 := hset x List.mem_cons_self
    have hin : ∀ q : Nat, inE 5 (q : Int) x = decide (q = p) := fun q => by
      unfold inE
      rw [e5, e, decide_eq_true rfl, Bool.true_and]
      by_cases h : q = p
      · subst h; simp
      · rw [decide_eq_false h, decide_eq_false]; omega
    have hc : ∀ q, cntK (x :: T) q = cntK T q + if q = p then 1 else 0 := fun q => by
      unfold cntK
      rw [List.filter_cons, hin]
      by_cases h : q = p <;> simp [h]
    rw [hc 0, hc 1, hc 2, List.length_cons]
    rcases p with _ | _ | _ | p
    · simp; omega
    · simp; omega
    · simp; omega
    · omega
theorem closeR {T : List InA} {i : Nat} (h : InvK i T) (k : Nat) : (closeA (gR T k) 5).2 = if cntK T 0 + cntK T 1 + cntK T 2 = cntK T k then 0 else 13 := by
  unfold closeA
  rw [if_neg (by rw [setA_R]; simp), cnt_all h]
  have hc : cntK T k + (T.filter fun x => !inE 5 (k : Int) x).length = T.length := by
    unfold cntK
    exact filt_split _ _
  by_cases e : T.length = cntK T k
  · rw [if_pos e, if_neg]
    have : (T.filter fun x => !inE 5 (k : Int) x) = [] := List.eq_nil_of_length_eq_zero (by omega)
    show ¬ ((T.filter fun x => !inE 5 (k : Int) x).any _) = true
    rw [this]; simp
  · rw [if_neg e, if_pos]
    show ((T.filter fun x => !inE 5 (k : Int) x).any fun x => decide (x.set = 5)) = true
    cases hl : (T.filter fun x => !inE 5 (k : Int) x) with
    | nil => rw [hl] at hc; simp at hc; omega
    | cons x L =>
      have hx : x ∈ T := (List.mem_filter.1 (hl ▸ List.mem_cons_self : x ∈ T.filter fun x => !inE 5 (k : Int) x)).1
      rw [List.any_cons, (h.el x hx).1]; simp
end Go.Proofs.YtfikkjdkgigikaaDoor
