/- Maps keyed by ints, with whatever elements, told as rows of pairs; the walk's laws at them. Condition: the map is one that the calls have made. -/
import Derived.Test.YtgioinjcgeepoaaDoorProg
import Derived.Lib.SlKeysI
import Derived.Maps.RangeWalk
import Derived.Maps.OwnSet
import Derived.Lib.Hide
import Derived.LoopTactic
import Derived.Maps.AppendAt
namespace Go.Proofs.YtgioinjcgeepoaaDoor
open Go Go.RowKit Go.Maps

section
variable {α : Type}
/-- What a row of pairs has at a key. -/
def look : List (Int × α) → Int → Option α
  | [], _ => none
  | (a, v) :: T, x => if x = a then some v else look T x
def strike : List (Int × α) → Int → List (Int × α)
  | [], _ => []
  | (a, v) :: T, x => if x = a then strike T x else (a, v) :: strike T x
def enter (T : List (Int × α)) (x : Int) (v : α) : List (Int × α) := (x, v) :: strike T x
/-- No key twice. -/
def Apart : List (Int × α) → Prop
  | [] => True
  | (a, _) :: T => look T a = none ∧ Apart T
theorem look_cons (T : List (Int × α)) (a : Int) (v : α) (x : Int) : look ((a, v) :: T) x = if x = a then some v else look T x := rfl
theorem strike_cons (T : List (Int × α)) (a : Int) (v : α) (x : Int) : strike ((a, v) :: T) x = if x = a then strike T x else (a, v) :: strike T x := rfl
theorem look_strike (T : List (Int × α)) (x y : Int) : look (strike T x) y = if y = x then none else look T y := by
  induction T with
  | nil => simp [strike, look]
  | cons p T ih =>
    obtain ⟨a, v⟩ := p
    rw [strike_cons, look_cons]
    by_cases e : x = a
    · rw [if_pos e, ih]
      by_cases k : y = x
      · rw [if_pos k, if_pos k]
      · rw [if_neg k, if_neg k, if_neg (by omega)]
    · rw [if_neg e, look_cons, ih]
      by_cases k : y = x
      · rw [if_pos k, if_neg (by omega), if_pos k]
      · rw [if_neg k, if_neg k]
theorem look_enter (T : List (Int × α)) (x : Int) (v : α) (y : Int) : look (enter T x v) y = if y = x then some v else look T y := by
  unfold enter
  rw [look_cons, look_strike]
  by_cases k : y = x
  · rw [if_pos k, if_pos k]
  · rw [if_neg k, if_neg k, if_neg k]
theorem look_same (T : List (Int × α)) (x : Int) (v : α) : look (enter T x v) x = some v := by rw [look_enter, if_pos rfl]
theorem strike_none {T : List (Int × α)} {x : Int} (h : look T x = none) : strike T x = T := by
  induction T with
  | nil => rfl
  | cons p T ih =>
    obtain ⟨a, v⟩ := p
    rw [look_cons] at h
    by_cases e : x = a
    · rw [if_pos e] at h; cases h
    · rw [if_neg e] at h; rw [strike_cons, if_neg e, ih h]
theorem Apart.strike {T : List (Int × α)} (h : Apart T) (x : Int) : Apart (strike T x) := by
  induction T with
  | nil => exact h
  | cons p T ih =>
    obtain ⟨a, v⟩ := p
    rw [strike_cons]
    by_cases e : x = a
    · rw [if_pos e]; exact ih h.2
    · rw [if_neg e]; exact ⟨by rw [look_strike, h.1, ite_self], ih h.2⟩
theorem Apart.enter {T : List (Int × α)} (h : Apart T) (x : Int) (v : α) : Apart (enter T x v) := ⟨by rw [look_strike, if_pos rfl], h.strike x⟩
theorem strike_len {T : List (Int × α)} (h : Apart T) {x : Int} (hx : (look T x).isSome = true) : (strike T x).length + 1 = T.length := by
  induction T with
  | nil => cases hx
  | cons p T ih =>
    obtain ⟨a, v⟩ := p
    rw [strike_cons]
    by_cases e : x = a
    · subst e; rw [if_pos rfl, strike_none h.1]; rfl
    · rw [look_cons, if_neg e] at hx
      rw [if_neg e, List.length_cons, List.length_cons, ih h.2 hx]
theorem strike_le (T : List (Int × α)) (x : Int) : (strike T x).length ≤ T.length := by
  induction T with
  | nil => exact Nat.le_refl _
  | cons p T ih =>
    obtain ⟨a, v⟩ := p
    rw [strike_cons]
    by_cases e : x = a
    · rw [if_pos e, List.length_cons]; omega
    · rw [if_neg e, List.length_cons, List.length_cons]; omega
theorem enter_len {T : List (Int × α)} (h : Apart T) (x : Int) (v : α) : (enter T x v).length = if (look T x).isSome then T.length else T.length + 1 := by
  unfold enter
  cases e : look T x with
  | none => rw [strike_none e]; rfl
  | some u => rw [List.length_cons, strike_len h (by rw [e]; rfl)]; rfl
theorem enter_le (T : List (Int × α)) (x : Int) (v : α) : (enter T x v).length ≤ T.length + 1 := by
  have := strike_le T x
  unfold enter; rw [List.length_cons]; omega
theorem look_mem {T : List (Int × α)} {x : Int} {v : α} (h : look T x = some v) : (x, v) ∈ T := by
  induction T with
  | nil => cases h
  | cons p T ih =>
    obtain ⟨a, u⟩ := p
    rw [look_cons] at h
    by_cases e : x = a
    · rw [if_pos e] at h; cases h; subst e; exact List.mem_cons_self ..
    · rw [if_neg e] at h; exact List.mem_cons_of_mem _ (ih h)
theorem look_keys {T : List (Int × α)} {x : Int} : (look T x).isSome = true ↔ x ∈ T.map (·.1) := by
  induction T with
  | nil => simp [look]
  | cons p T ih =>
    obtain ⟨a, u⟩ := p
    rw [look_cons]
    by_cases e : x = a
    · subst e; simp
    · rw [if_neg e, ih]; simp [e]
theorem Apart.nodup {T : List (Int × α)} (h : Apart T) : (T.map (·.1)).Nodup := by
  induction T with
  | nil => exact List.nodup_nil
  | cons p T ih =>
    obtain ⟨a, v⟩ := p
    rw [List.map_cons]
    refine List.nodup_cons.2 ⟨fun hm => ?_, ih h.2⟩
    have := look_keys.2 hm
    rw [h.1] at this; cases this
theorem mem_look {T : List (Int × α)} (h : Apart T) {x : Int} {v : α} (hm : (x, v) ∈ T) : look T x = some v := by
  induction T with
  | nil => cases hm
  | cons p T ih =>
    obtain ⟨a, u⟩ := p
    rcases List.mem_cons.1 hm with e | hm'
    · cases e; rw [look_cons, if_pos rfl]
    · have hs : (look T x).isSome = true := look_keys.2 (List.mem_map.2 ⟨_, hm', rfl⟩)
      rw [look_cons, if_neg (fun e => by subst e; rw [h.1] at hs; cases hs)]
      exact ih h.2 hm'
/-- The sum over all. -/
def tot (f : α → Int) : List (Int × α) → Int
  | [] => 0
  | (_, v) :: T => f v + tot f T
/-- The sum over those that are not left. -/
def partOf (f : α → Int) (left : Lit → Bool) : List (Int × α) → Int
  | [] => 0
  | (a, v) :: T => (if left (.int .i64 a) then 0 else f v) + partOf f left T
theorem tot_cons (f : α → Int) (a : Int) (v : α) (T : List (Int × α)) : tot f ((a, v) :: T) = f v + tot f T := rfl
theorem part_cons (f : α → Int) (left : Lit → Bool) (a : Int) (v : α) (T : List (Int × α)) : partOf f left ((a, v) :: T) = (if left (.int .i64 a) then 0 else f v) + partOf f left T := rfl
/-- What an element counts, none counts nothing. -/
def at0 (f : α → Int) : Option α → Int
  | some v => f v
  | none => 0
theorem tot_strike (f : α → Int) {T : List (Int × α)} (h : Apart T) (x : Int) : tot f (strike T x) = tot f T - at0 f (look T x) := by
  induction T with
  | nil => rfl
  | cons p T ih =>
    obtain ⟨a, v⟩ := p
    rw [strike_cons, look_cons, tot_cons]
    by_cases e : x = a
    · subst e; rw [if_pos rfl, if_pos rfl, strike_none h.1]; simp only [at0]; omega
    · rw [if_neg e, if_neg e, tot_cons, ih h.2]; omega
theorem tot_enter (f : α → Int) {T : List (Int × α)} (h : Apart T) (x : Int) (v : α) : tot f (enter T x v) = tot f T - at0 f (look T x) + f v := by
  unfold enter
  rw [tot_cons, tot_strike f h]; omega
theorem part_other (f : α → Int) (left : Lit → Bool) {T : List (Int × α)} {y : Int} (h : look T y = none) : partOf f (fun z => left z && !z.sameKey (.int .i64 y)) T = partOf f left T := by
  induction T with
  | nil => rfl
  | cons p T ih =>
    obtain ⟨a, v⟩ := p
    rw [look_cons] at h
    by_cases e : y = a
    · rw [if_pos e] at h; cases h
    · rw [if_neg e] at h
      rw [part_cons, part_cons, ih h]
      have : a ≠ y := fun k => e k.symm
      simp [Lit.sameKey, this]
theorem part_take (f : α → Int) (left : Lit → Bool) {T : List (Int × α)} (h : Apart T) {y : Int} {v : α} (hl : left (.int .i64 y) = true) (hy : look T y = some v) :
    partOf f (fun z => left z && !z.sameKey (.int .i64 y)) T = partOf f left T + f v := by
  induction T with
  | nil => cases hy
  | cons p T ih =>
    obtain ⟨a, u⟩ := p
    rw [look_cons] at hy
    by_cases e : y = a
    · subst e
      rw [if_pos rfl] at hy; cases hy
      rw [part_cons, part_cons, part_other f left h.1]
      simp [Lit.sameKey, hl]; omega
    · rw [if_neg e] at hy
      rw [part_cons, part_cons, ih h.2 hy]
      have : a ≠ y := fun k => e k.symm
      simp [Lit.sameKey, this]; omega
theorem part_all (f : α → Int) {left : Lit → Bool} (h : ∀ kl, left kl = false) (T : List (Int × α)) : partOf f left T = tot f T := by
  induction T with
  | nil => rfl
  | cons p T ih => obtain ⟨a, v⟩ := p; rw [part_cons, tot_cons, ih, h]; rfl
theorem part_none (f : α → Int) {left : Lit → Bool} (T : List (Int × α)) (h : ∀ x, (look T x).isSome = true → left (.int .i64 x) = true) : partOf f left T = 0 := by
  induction T with
  | nil => rfl
  | cons p T ih =>
    obtain ⟨a, v⟩ := p
    rw [part_cons, ih (fun x hx => h x (by rw [look_cons]; split <;> first | rfl | exact hx)), h a (by rw [look_cons, if_pos rfl]; rfl)]; rfl
theorem part_bounds (f : α → Int) (left : Lit → Bool) {T : List (Int × α)} (h : ∀ p ∈ T, 0 ≤ f p.2) : 0 ≤ partOf f left T ∧ partOf f left T ≤ tot f T := by
  induction T with
  | nil => exact ⟨Int.le_refl _, Int.le_refl _⟩
  | cons p T ih =>
    obtain ⟨a, v⟩ := p
    have h1 := ih fun p hp => h p (List.mem_cons_of_mem _ hp)
    have h2 := h (a, v) (List.mem_cons_self ..)
    rw [part_cons, tot_cons]
    simp only at h2
    split <;> omega
theorem tot_nonneg (f : α → Int) {T : List (Int × α)} (h : ∀ p ∈ T, 0 ≤ f p.2) : 0 ≤ tot f T := by
  induction T with
  | nil => exact Int.le_refl _
  | cons p T ih =>
    obtain ⟨a, v⟩ := p
    have h1 := ih fun p hp => h p (List.mem_cons_of_mem _ hp)
    have h2 := h (a, v) (List.mem_cons_self ..)
    rw [tot_cons]; simp only at h2; omega
theorem tot_one (f : α → Int) {T : List (Int × α)} (h : ∀ p ∈ T, 0 ≤ f p.2) {x : Int} {v : α} (hx : look T x = some v) : f v ≤ tot f T := by
  induction T with
  | nil => cases hx
  | cons p T ih =>
    obtain ⟨a, u⟩ := p
    have h1 := tot_nonneg f fun p hp => h p (List.mem_cons_of_mem _ hp)
    have h2 := h (a, u) (List.mem_cons_self ..)
    rw [tot_cons]
    rw [look_cons] at hx
    simp only at h2
    by_cases e : x = a
    · rw [if_pos e] at hx; cases hx; omega
    · rw [if_neg e] at hx
      have := ih (fun p hp => h p (List.mem_cons_of_mem _ hp)) hx
      omega
/-- The keys, ascending. -/
def keysUp (T : List (Int × α)) : List Int := (T.map (·.1)).mergeSort leI
theorem keysUp_len (T : List (Int × α)) : (keysUp T).length = T.length := by simp [keysUp]
theorem mem_keysUp {T : List (Int × α)} {x : Int} : x ∈ keysUp T ↔ (look T x).isSome = true := by
  rw [look_keys]; unfold keysUp; exact (List.mergeSort_perm _ _).mem_iff
theorem perm_sum {l l' : List Int} (h : l.Perm l') : l.sum = l'.sum := by
  induction h with
  | nil => rfl
  | cons x _ ih => rw [List.sum_cons, List.sum_cons, ih]
  | swap x y l => simp only [List.sum_cons]; omega
  | trans _ _ a b => exact a.trans b
/-- The sum over the keys is the sum over all. -/
theorem keysUp_sum (f : α → Int) (z : α) {T : List (Int × α)} (h : Apart T) : ((keysUp T).map fun x => f ((look T x).getD z)).sum = tot f T := by
  have e1 : ((keysUp T).map fun x => f ((look T x).getD z)).Perm ((T.map (·.1)).map fun x => f ((look T x).getD z)) := (List.mergeSort_perm _ _).map _
  have e2 : ∀ S : List (Int × α), (∀ p ∈ S, look T p.1 = some p.2) → ((S.map (·.1)).map fun x => f ((look T x).getD z)).sum = tot f S := by
    intro S hS
    induction S with
    | nil => rfl
    | cons p S ih =>
      have hp := hS p (List.mem_cons_self ..)
      obtain ⟨a, v⟩ := p
      rw [List.map_cons, List.map_cons, List.sum_cons, ih (fun p hp => hS p (List.mem_cons_of_mem _ hp)), tot_cons]
      simp only at hp
      simp only [hp, Option.getD_some]
  rw [perm_sum e1]
  exact e2 T fun p hp => mem_look h hp

/-- An element as it is. -/
def raw : Value → Option (DataW Value × List MemPlace) := fun v => some (.held v, [])
/-- A map's datum holds the pairs of T. -/
structure MeansI (enc : α → Value) (D : DataW Value) (T : List (Int × α)) : Prop where
  has : ∀ x : Int, Maps.has D (.int .i64 x) = (look T x).isSome
  at_ : ∀ (x : Int) (z : DataW Value), D.atKey (.int .i64 x) z = ((look T x).map fun v => DataW.held (enc v)).getD z
  size : Maps.size D = T.length
  apart : Apart T
theorem MeansI.empty (enc : α → Value) : MeansI enc (.map []) [] := ⟨fun _ => rfl, fun _ _ => rfl, rfl, trivial⟩
theorem MeansI.put {enc : α → Value} {D : DataW Value} {T : List (Int × α)} (h : MeansI enc D T) (t : Tidy D) (x : Int) (v : α) : MeansI enc (D.put (.int .i64 x) (.held (enc v))) (enter T x v) where
  has := fun y => by
    rw [look_enter]
    by_cases e : y = x
    · subst e; rw [has_put_same (k := .int .i64 y) t.isMap (show WideAt.IsKeyLit (.int .i64 y) from trivial), if_pos rfl]; rfl
    · rw [has_put_other (by simp [e]), if_neg e]; exact h.has y
  at_ := fun y z => by
    rw [look_enter]
    by_cases e : y = x
    · subst e; rw [atKey_put_same (k := .int .i64 y) t.isMap (show WideAt.IsKeyLit (.int .i64 y) from trivial), if_pos rfl]; rfl
    · rw [atKey_put_other (by simp [e]), if_neg e]; exact h.at_ y z
  size := by rw [size_put t, h.has, enter_len h.apart, h.size]
  apart := h.apart.enter x v
theorem MeansI.del {enc : α → Value} {D : DataW Value} {T : List (Int × α)} (h : MeansI enc D T) (t : Tidy D) (x : Int) : MeansI enc (D.del (.int .i64 x)) (strike T x) where
  has := fun y => by
    rw [look_strike]
    by_cases e : y = x
    · subst e; rw [has_del_same, if_pos rfl]; rfl
    · rw [has_del_other (by simp [e]), if_neg e]; exact h.has y
  at_ := fun y z => by
    rw [look_strike]
    by_cases e : y = x
    · subst e; rw [atKey_del_same, if_pos rfl]; rfl
    · rw [atKey_del_other (by simp [e]), if_neg e]; exact h.at_ y z
  size := by
    have h1 := size_del (k := .int .i64 x) t
    rw [h.has] at h1
    cases e : look T x with
    | none => rw [e] at h1; simp at h1; rw [strike_none e, h1, h.size]
    | some v =>
      rw [e] at h1
      have := strike_len h.apart (x := x) (by rw [e]; rfl)
      have := h.size
      simp at h1; omega
  apart := h.apart.strike x

theorem wfI {x : Int} (h0 : -9223372036854775808 ≤ x) (h1 : x ≤ 9223372036854775807) : (Lit.int .i64 x).wf = true := by
  show (decide ((-9223372036854775808 : Int) ≤ x) && decide (x ≤ 9223372036854775807)) = true
  simp; omega
theorem wfI_inv {x : Int} (h : (Lit.int .i64 x).wf = true) : -9223372036854775808 ≤ x ∧ x ≤ 9223372036854775807 := by
  have h : (decide ((-9223372036854775808 : Int) ≤ x) && decide (x ≤ 9223372036854775807)) = true := h
  simpa using h
theorem own_fitI {w : World} {P : Program} {k : TypeId} {R : Value → Option (DataW Value × List MemPlace)} {b n m : Nat} {D : DataW Value} (h : w.ownsMap P k R b n D) (hm : Maps.size D ≤ m) : w.ownsMap P k R b m D := by
  obtain ⟨es, c, hb, F, hs, rfl⟩ := h
  refine ⟨es, c, hb, F, ?_, rfl⟩
  simpa [Maps.size, length_sorted] using hm

variable {P : Program} {k : TypeId} {enc : α → Value} {w : World} {b : Nat} {T : List (Int × α)}
/-- Block b is a map keyed by ints that has the pairs of T. -/
def MapI (P : Program) (k : TypeId) (enc : α → Value) (w : World) (b : Nat) (T : List (Int × α)) : Prop := ∃ D : DataW Value, w.ownsMap P k raw b T.length D ∧ MeansI enc D T
theorem MapI.lt (h : MapI P k enc w b T) : b < w.heap.size := by obtain ⟨_, h, _⟩ := h; exact h.lt
theorem MapI.same {w' : World} (h : MapI P k enc w b T) (e : w'.heap[b]? = w.heap[b]?) : MapI P k enc w' b T := by
  obtain ⟨D, ⟨es, c, hb, r⟩, m⟩ := h
  exact ⟨D, ⟨es, c, e.trans hb, r⟩, m⟩
theorem MapI.on {w' : World} {B : Nat} (h : MapI P k enc w b T) (hb : Below B w w') (hB : w.heap.size ≤ B) : MapI P k enc w' b T := h.same (hb.block _ (Nat.lt_of_lt_of_le h.lt hB))
theorem MapI.alloc (h : MapI P k enc w b T) (o : Obj) : MapI P k enc (w.alloc o) b T := h.on ((Below.refl _ w).alloc (Nat.le_refl _) o) (Nat.le_refl _)
theorem MapI.apart (h : MapI P k enc w b T) : Apart T := by obtain ⟨_, _, m⟩ := h; exact m.apart
theorem MapI.made (P : Program) (k : TypeId) (enc : α → Value) (w : World) : MapI P k enc (w.alloc (.map #[] 0)) w.heap.size [] := ⟨_, World.ownsMap_made _ _ _ _, MeansI.empty enc⟩
theorem MapI.keys (h : MapI P k enc w b T) (hk : P.underlying k = some (.int .i64)) {x : Int} {v : α} (hx : look T x = some v) : -9223372036854775808 ≤ x ∧ x ≤ 9223372036854775807 := by
  obtain ⟨D, hown, m⟩ := h
  obtain ⟨es, hD, hko⟩ := hown.keysOf
  have h1 := m.has x
  rw [hx, hD, has_eq, Option.isSome_some, List.any_eq_true] at h1
  obtain ⟨p, hp, hs⟩ := h1
  obtain ⟨v', hv⟩ := hko p hp
  obtain ⟨y, _, hy, hw⟩ := Maps.keyOf_i64 hk hv
  rw [hy] at hs
  have : y = x := by simpa [Lit.sameKey] using hs
  subst this
  exact wfI_inv hw
/-- The map's keys, sorted. -/
theorem MapI.sorted {D : DataW Value} (hown : w.ownsMap P k raw b T.length D) (h : MeansI enc D T) (hk : P.underlying k = some (.int .i64)) : (intKeys D).mergeSort leI = keysUp T := by
  obtain ⟨es, hD, hpw, _⟩ := hown.entries (int_keyed hk)
  obtain ⟨es', hD', hko⟩ := hown.keysOf
  obtain rfl : es = es' := by rw [hD] at hD'; simpa using hD'
  have hkk : ∀ p ∈ es, ∃ x, p.1 = .int .i64 x := fun p hp => by
    obtain ⟨v, hv⟩ := hko p hp
    obtain ⟨x, _, hx, _⟩ := Maps.keyOf_i64 hk hv
    exact ⟨x, hx⟩
  subst hD
  have hp := perm_intKeys hpw hkk h.apart.nodup fun x => by rw [← look_keys, h.has]
  exact (mergeSort_of_perm_i hp).symm
end

section
variable {α : Type} {P : Program} (w : World) {ops : Array Oper} {rest : List Oper} {o : Oper} {a : Act} {Q : Exit → Act → World → Prop}
/-- 'm[x]'. -/
theorem wpList_lookI (hg : o.guard = none) (m x : Operand) (t : TypeId) (hop : o.op = Op.lookup t m x false) (k e : TypeId) (hk : P.underlying k = some (.int .i64)) (ht : P.underlying t = some (.map k e)) (enc : α → Value) (z : α)
    (hz : (zeroValue e).run P w = .ok (enc z) w) (b : Nat) (T : List (Int × α)) (hm : a.eval m = .map (some b)) (h : MapI P k enc w b T) (y : Int) (hx : a.eval x = .int .i64 y) (hy : (Lit.int .i64 y).wf = true) (val : Value) (hval : enc ((look T y).getD z) = val)
    (hK : wpList P ops Q rest (a.put o.dst val) w) : wpList P ops Q (o :: rest) a w := by
  obtain ⟨D, hown, hme⟩ := h
  refine wpList_plain hg fun K' hK' => ?_
  obtain ⟨v, ps, hrun, hR⟩ := hown.lookup (int_keyed hk) ht hz (zd := .held (enc z)) (zp := []) rfl (keyOf_int_mk (P := P) hk hy)
  have hv : v = val := by
    have e1 : DataW.held v = D.atKey (.int .i64 y) (.held (enc z)) := congrArg Prod.fst (Option.some.inj hR)
    rw [hme.at_] at e1
    rw [← hval]
    cases e : look T y with
    | none => rw [e] at e1; exact DataW.held.inj e1
    | some u => rw [e] at e1; exact DataW.held.inj e1
  subst hv
  unfold Oper.wp
  simp [execOp, hop, hm, hx, hrun, Result.andThen]
  exact hK' _ _ hK
/-- 'v, ok := m[x]'. -/
theorem wpList_lookI_ok (hg : o.guard = none) (m x : Operand) (t : TypeId) (hop : o.op = Op.lookup t m x true) (k e : TypeId) (hk : P.underlying k = some (.int .i64)) (ht : P.underlying t = some (.map k e)) (enc : α → Value) (z : α)
    (hz : (zeroValue e).run P w = .ok (enc z) w) (b : Nat) (T : List (Int × α)) (hm : a.eval m = .map (some b)) (h : MapI P k enc w b T) (y : Int) (hx : a.eval x = .int .i64 y) (hy : (Lit.int .i64 y).wf = true) (val : Value) (hval : enc ((look T y).getD z) = val)
    (ok : Bool) (hok : (look T y).isSome = ok) (hK : wpList P ops Q rest (a.put o.dst (.tuple #[val, .bool ok])) w) : wpList P ops Q (o :: rest) a w := by
  obtain ⟨D, hown, hme⟩ := h
  refine wpList_lookup_own_ok w hg m x t hop k e (int_keyed hk) ht raw hz (.held (enc z)) [] rfl b T.length D hm hown _ _ hx (keyOf_int_mk (P := P) hk hy) fun v ps hR => ?_
  have hv : v = val := by
    have e1 : DataW.held v = D.atKey (.int .i64 y) (.held (enc z)) := congrArg Prod.fst (Option.some.inj hR)
    rw [hme.at_] at e1
    rw [← hval]
    cases e : look T y with
    | none => rw [e] at e1; exact DataW.held.inj e1
    | some u => rw [e] at e1; exact DataW.held.inj e1
  subst hv
  rw [hme.has, hok]
  exact hK
/-- 'm[x] = v'. -/
theorem wpList_putI (hg : o.guard = none) (m x v : Operand) (t : TypeId) (hop : o.op = Op.mapUpdate t m x v) (k e : TypeId) (hk : P.underlying k = some (.int .i64)) (ht : P.underlying t = some (.map k e)) (enc : α → Value)
    (b : Nat) (T : List (Int × α)) (hm : a.eval m = .map (some b)) (h : MapI P k enc w b T) (hn : T.length < maxLen) (y : Int) (hx : a.eval x = .int .i64 y) (hy : (Lit.int .i64 y).wf = true) (u : α) (hv : a.eval v = enc u)
    (hK : ∀ w', MapI P k enc w' b (enter T y u) → w.grownBy w' (some b) → wpList P ops Q rest (a.put o.dst undef) w') : wpList P ops Q (o :: rest) a w := by
  obtain ⟨D, hown, hme⟩ := h
  refine wpList_mapUpdate_own w hg m x v t hop k e (int_keyed hk) ht raw b T.length D hm hown hn _ _ _ hx hv (keyOf_int_mk (P := P) hk hy) (.held (enc u)) [] rfl fun w' hown' hgr => ?_
  have hme' := hme.put (hown.tidy (int_keyed hk)) y u
  exact hK w' ⟨_, own_fitI hown' (Nat.le_of_eq hme'.size), hme'⟩ hgr
/-- 'map[..]{x: v}': an entry that a literal fills. -/
theorem wpList_insertI (hg : o.guard = none) (m x v : Operand) (t : TypeId) (hop : o.op = Op.insert t m x v) (k e : TypeId) (hk : P.underlying k = some (.int .i64)) (ht : P.underlying t = some (.map k e)) (enc : α → Value)
    (b : Nat) (T : List (Int × α)) (hm : a.eval m = .map (some b)) (h : MapI P k enc w b T) (hn : T.length < maxLen) (y : Int) (hx : a.eval x = .int .i64 y) (hy : (Lit.int .i64 y).wf = true) (u : α) (hv : a.eval v = enc u)
    (hK : ∀ w', MapI P k enc w' b (enter T y u) → w.grownBy w' (some b) → wpList P ops Q rest (a.put o.dst undef) w') : wpList P ops Q (o :: rest) a w := by
  obtain ⟨D, hown, hme⟩ := h
  refine wpList_plain hg fun K' hK' => ?_
  obtain ⟨w', hrun, r1, r2⟩ := hown.update (int_keyed hk) ht hn (val := enc u) (d := .held (enc u)) (ps := []) (keyOf_int_mk (P := P) hk hy) rfl
  unfold Oper.wp
  simp [execOp, hop, hm, hx, hv, hrun, Result.andThen]
  have hme' := hme.put (hown.tidy (int_keyed hk)) y u
  exact hK' _ _ (hK w' ⟨_, own_fitI r1 (Nat.le_of_eq hme'.size), hme'⟩ r2)
/-- 'delete(m, x)'. -/
theorem wpList_delI (hg : o.guard = none) (m x : Operand) (t k : TypeId) (hop : o.op = Op.call { callee := Callee.builtin Builtin.delete, args := #[m, x], argTypes := #[t, k] }) (e : TypeId) (hk : P.underlying k = some (.int .i64)) (ht : P.underlying t = some (.map k e))
    (enc : α → Value) (b : Nat) (T : List (Int × α)) (hm : a.eval m = .map (some b)) (h : MapI P k enc w b T) (y : Int) (hx : a.eval x = .int .i64 y) (hy : (Lit.int .i64 y).wf = true)
    (hK : ∀ w', MapI P k enc w' b (strike T y) → w.grownBy w' (some b) → wpList P ops Q rest (a.put o.dst (.tuple #[])) w') : wpList P ops Q (o :: rest) a w := by
  obtain ⟨D, hown, hme⟩ := h
  refine wpList_delete_own w hg m x t k hop e (int_keyed hk) ht raw b T.length D hm hown _ _ hx (keyOf_int_mk (P := P) hk hy) fun w' hown' hturn => ?_
  have hme' := hme.del (hown.tidy (int_keyed hk)) y
  exact hK w' ⟨_, own_fitI hown' (Nat.le_of_eq hme'.size), hme'⟩ hturn.grown
/-- 'len(m)'. -/
theorem wpList_lenI (hg : o.guard = none) (m : Operand) (t : TypeId) (hop : o.op = Op.call { callee := Callee.builtin Builtin.len, args := #[m], argTypes := #[t] }) (k e : TypeId) (ht : P.underlying t = some (.map k e))
    (enc : α → Value) (b : Nat) (T : List (Int × α)) (hm : a.eval m = .map (some b)) (h : MapI P k enc w b T) (hK : wpList P ops Q rest (a.put o.dst (.int .i64 (T.length : Int))) w) : wpList P ops Q (o :: rest) a w := by
  obtain ⟨D, hown, hme⟩ := h
  refine wpList_len_own w hg m t hop k e ht raw b T.length D hm hown ?_
  rw [hme.size]; exact hK

/-- A range over a map: which entries are still to come. -/
def RangeI (P : Program) (k : TypeId) (enc : α → Value) (w : World) (b r : Nat) (T : List (Int × α)) (left : Lit → Bool) (cnt : Nat) : Prop := ∃ D : DataW Value, w.ranges P k raw b r T.length D left cnt ∧ MeansI enc D T
variable {enc : α → Value} {b r cnt : Nat} {T : List (Int × α)} {left : Lit → Bool} {k : TypeId} {w}
theorem RangeI.left_eq (h : RangeI P k enc w b r T left cnt) : w.rangeLeft b r = cnt := by obtain ⟨D, h, _⟩ := h; exact h.left_eq
theorem RangeI.map (h : RangeI P k enc w b r T left cnt) : MapI P k enc w b T := by obtain ⟨D, h, m⟩ := h; exact ⟨D, h.owns, m⟩
theorem RangeI.kept {w' : World} {row : Option Nat} (h : RangeI P k enc w b r T left cnt) (hg : w.grownBy w' row) (hb' : some b ≠ row) (hr' : some r ≠ row) : RangeI P k enc w' b r T left cnt := by obtain ⟨D, h, m⟩ := h; exact ⟨D, h.kept hg hb' hr', m⟩
theorem RangeI.alloc (h : RangeI P k enc w b r T left cnt) (o : Obj) : RangeI P k enc (w.alloc o) b r T left cnt := by obtain ⟨D, h, m⟩ := h; exact ⟨D, h.alloc o, m⟩
variable (w)
theorem wpList_rangeI (hg : o.guard = none) (m : Operand) (t : TypeId) (hop : o.op = Op.range t m) (k e : TypeId) (hk : P.underlying k = some (.int .i64)) (ht : P.underlying t = some (.map k e)) (enc : α → Value) (b : Nat) (T : List (Int × α))
    (hm : a.eval m = .map (some b)) (h : MapI P k enc w b T)
    (hK : ∀ w' left, RangeI P k enc w' b w.heap.size T left T.length → (∀ x, left (.int .i64 x) = (look T x).isSome) → w.grownBy w' none → w'.heap.size = w.heap.size + 1 → wpList P ops Q rest (a.put o.dst (.pointer (some ⟨w.heap.size, 0, none⟩))) w') :
    wpList P ops Q (o :: rest) a w := by
  obtain ⟨D, hown, hme⟩ := h
  refine wpList_range_own w hg m t hop k e (int_keyed hk) ht raw b T.length D hm hown fun w' hrg hgr hs => ?_
  rw [hme.size] at hrg
  exact hK w' _ ⟨D, hrg, hme⟩ hme.has hgr hs
/-- A range's step, key and element. -/
theorem wpList_nextI (hg : o.guard = none) (it : Operand) (hop : o.op = Op.next it false) (k : TypeId) (hk : P.underlying k = some (.int .i64)) (enc : α → Value) (b r : Nat) (T : List (Int × α)) (left : Lit → Bool) (cnt : Nat)
    (hit : a.eval it = .pointer (some ⟨r, 0, none⟩)) (h : RangeI P k enc w b r T left cnt)
    (hDone : cnt = 0 → (∀ kl, left kl = false) → wpList P ops Q rest (a.put o.dst (.tuple #[.bool false])) w)
    (hMore : ∀ (x : Int) (v : α) (w' : World) (cnt' : Nat), (Lit.int .i64 x).wf = true → left (.int .i64 x) = true → look T x = some v → RangeI P k enc w' b r T (fun z => left z && !z.sameKey (.int .i64 x)) cnt' → cnt' < cnt →
      w.grownBy w' (some r) → w'.heap.size = w.heap.size → (Instr.entry (.pointer (some ⟨r, 0, none⟩))).run P w' = .ok (.tuple #[.int .i64 x, enc v]) w' → wpList P ops Q rest (a.put o.dst (.tuple #[.bool true, .int .i64 x, enc v])) w') :
    wpList P ops Q (o :: rest) a w := by
  obtain ⟨D, hrg, hme⟩ := h
  refine wpList_next_ranges w hg it hop k (int_keyed hk) raw (Value.int .i64) id (fun key kl hkey => by obtain ⟨x, rfl, _⟩ := Maps.keyOf_int_inv hk hkey; exact ⟨x, rfl⟩) (fun v _ _ => ⟨v, rfl⟩)
    b r T.length D left cnt hit hrg hDone (fun x c kl y w' cnt' hkey hlk hv hat hrg' hlt hgr hsz hen => ?_)
  obtain ⟨x', ex, rfl, hwx⟩ := Maps.keyOf_int_inv hk hkey
  cases ex
  have h1 := has_true_of_atKey hat
  rw [hme.has] at h1
  obtain ⟨v, hv'⟩ := Option.isSome_iff_exists.1 h1
  have h2 := (hme.at_ x .nil).symm.trans (hat .nil)
  rw [hv'] at h2
  have h3 : y = (.held c, []) := (Option.some.inj hv).symm
  rw [h3] at h2
  have h4 : enc v = c := DataW.held.inj h2
  rw [id, ← h4] at hen ⊢
  exact hMore x v w' cnt' hwx hlk hv' ⟨D, hrg', hme⟩ hlt hgr hsz hen
end
end Go.Proofs.YtgioinjcgeepoaaDoor
