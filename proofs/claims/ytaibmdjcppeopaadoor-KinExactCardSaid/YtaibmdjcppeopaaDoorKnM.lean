/- Tenants in plain words: who is above whom, the way up, who is next below. No program, no conditions. -/
import Derived.Test.YtaibmdjcppeopaaDoorProg
import Derived.Lib.SlKeysI
namespace Go.Proofs.YtaibmdjcppeopaaDoor
open Go Go.RowKit

/-- Tenants with their parents, the last that came first. -/
abbrev Kin := List (Int × Int)
def up : Kin → Int → Option Int
  | [], _ => none
  | (a, p) :: T, x => if x = a then some p else up T x
def way : Kin → Int → List Int
  | [], _ => []
  | (a, p) :: T, x => if x = a then way T p ++ [x] else way T x

/-- The root, and each below one that was there when it came. -/
inductive Good : Kin → Prop
  | root : Good [(1, 0)]
  | add {T : Kin} {a p : Int} (g : Good T) (n : up T a = none) (l : 1 ≤ a) (h : a ≤ 999) (u : (up T p).isSome = true) : Good ((a, p) :: T)

theorem up_cons (T : Kin) (a p x : Int) : up ((a, p) :: T) x = if x = a then some p else up T x := rfl
theorem way_cons (T : Kin) (a p x : Int) : way ((a, p) :: T) x = if x = a then way T p ++ [x] else way T x := rfl

theorem Good.up_root {T : Kin} (h : Good T) : up T 1 = some 0 := by
  induction h with
  | root => rfl
  | add g n l h u ih =>
    rw [up_cons, if_neg (fun e => by subst e; rw [ih] at n; cases n)]
    exact ih
theorem Good.bounds {T : Kin} (h : Good T) {x p : Int} (hx : up T x = some p) : 1 ≤ x ∧ x ≤ 999 := by
  induction h with
  | root =>
    rw [up_cons] at hx
    by_cases e : x = 1
    · omega
    · rw [if_neg e] at hx; cases hx
  | @add T a q g n l h u ih =>
    rw [up_cons] at hx
    by_cases e : x = a
    · subst e; exact ⟨l, h⟩
    · rw [if_neg e] at hx; exact ih hx
theorem Good.out {T : Kin} (h : Good T) {x : Int} (hx : x < 1 ∨ 999 < x) : up T x = none := by
  cases e : up T x with
  | none => rfl
  | some p => have := h.bounds e; omega
theorem way_none {T : Kin} {x : Int} (hx : up T x = none) : way T x = [] := by
  induction T with
  | nil => rfl
  | cons a T ih =>
    obtain ⟨a, p⟩ := a
    rw [up_cons] at hx
    by_cases e : x = a
    · rw [if_pos e] at hx; cases hx
    · rw [if_neg e] at hx; rw [way_cons, if_neg e]; exact ih hx
/-- The way to one that is there ends with it; ahead of it is the way to its parent, that is there unless the one is the root. -/
theorem Good.way_some {T : Kin} (h : Good T) {x p : Int} (hx : up T x = some p) : way T x = way T p ++ [x] ∧ ((x = 1 ∧ p = 0) ∨ (x ≠ 1 ∧ (up T p).isSome = true)) := by
  induction h with
  | root =>
    rw [up_cons] at hx
    by_cases e : x = 1
    · subst e
      rw [if_pos rfl] at hx
      obtain rfl := Option.some.inj hx
      exact ⟨rfl, .inl ⟨rfl, rfl⟩⟩
    · rw [if_neg e] at hx; cases hx
  | @add T a q g n l hh u ih =>
    have hr := g.up_root
    by_cases e : x = a
    · subst e
      rw [up_cons, if_pos rfl] at hx
      obtain rfl := Option.some.inj hx
      have hne : q ≠ x := fun e => by subst e; rw [n] at u; cases u
      refine ⟨by rw [way_cons, if_pos rfl, way_cons, if_neg hne], .inr ⟨fun e => (by subst e; rw [hr] at n; cases n), by rw [up_cons, if_neg hne]; exact u⟩⟩
    · rw [up_cons, if_neg e] at hx
      obtain ⟨h1, h2⟩ := ih hx
      have hne : p ≠ a := by
        rcases h2 with ⟨_, rfl⟩ | ⟨_, h2⟩
        · omega
        · intro e; subst e; rw [n] at h2; cases h2
      refine ⟨by rw [way_cons, if_neg e, way_cons, if_neg hne]; exact h1, ?_⟩
      rcases h2 with h2 | ⟨h2, h3⟩
      · exact .inl h2
      · exact .inr ⟨h2, by rw [up_cons, if_neg hne]; exact h3⟩
theorem way_len (T : Kin) (x : Int) : (way T x).length ≤ T.length := by
  induction T generalizing x with
  | nil => simp [way]
  | cons a T ih =>
    obtain ⟨a, p⟩ := a
    rw [way_cons]
    split
    · have := ih p; simp; omega
    · have := ih x; simp; omega
theorem way_mem {T : Kin} {x y : Int} (h : y ∈ way T x) : (up T y).isSome = true := by
  induction T generalizing x with
  | nil => simp [way] at h
  | cons a T ih =>
    obtain ⟨a, p⟩ := a
    rw [way_cons] at h
    rw [up_cons]
    by_cases e : x = a
    · rw [if_pos e] at h
      by_cases ey : y = a
      · rw [if_pos ey]; rfl
      · rw [if_neg ey]
        rcases List.mem_append.1 h with h | h
        · exact ih h
        · simp at h; omega
    · rw [if_neg e] at h
      by_cases ey : y = a
      · rw [if_pos ey]; rfl
      · rw [if_neg ey]; exact ih h
theorem Good.way_self {T : Kin} (h : Good T) {x : Int} (hx : (up T x).isSome = true) : x ∈ way T x := by
  obtain ⟨p, hp⟩ := Option.isSome_iff_exists.1 hx
  rw [(h.way_some hp).1]; simp
theorem Good.way_root {T : Kin} (h : Good T) {x : Int} (hx : (up T x).isSome = true) : (1 : Int) ∈ way T x := by
  induction h generalizing x with
  | root =>
    rw [up_cons] at hx
    by_cases e : x = 1
    · subst e; simp [way]
    · rw [if_neg e] at hx; cases hx
  | @add T a p g n l hh u ih =>
    rw [way_cons]
    by_cases e : x = a
    · rw [if_pos e]; exact List.mem_append.2 (.inl (ih u))
    · rw [if_neg e]; rw [up_cons, if_neg e] at hx; exact ih hx
/-- Whoever is on the way to x has the beginning of that way for its own. -/
theorem Good.way_prefix {T : Kin} (h : Good T) {x y : Int} (hy : y ∈ way T x) : way T y <+: way T x := by
  induction h generalizing x y with
  | root =>
    rw [way_cons] at hy
    by_cases e : x = 1
    · subst e; simp [way] at hy; subst hy; exact List.prefix_refl _
    · rw [if_neg e] at hy; simp [way] at hy
  | @add T a p g n l hh u ih =>
    have hold : ∀ z : Int, y ∈ way T z → way ((a, p) :: T) y = way T y := fun z hz => by
      have := way_mem hz
      rw [way_cons, if_neg (fun e => by subst e; rw [n] at this; cases this)]
    by_cases e : x = a
    · subst e
      rw [way_cons, if_pos rfl] at hy
      rcases List.mem_append.1 hy with hy | hy
      · rw [hold _ hy, way_cons, if_pos rfl]
        exact (ih hy).trans (List.prefix_append _ _)
      · simp at hy; subst hy; exact List.prefix_refl _
    · rw [way_cons, if_neg e] at hy
      rw [hold _ hy, way_cons, if_neg e]
      exact ih hy
theorem Good.below_trans {T : Kin} (h : Good T) {x y z : Int} (h1 : y ∈ way T x) (h2 : z ∈ way T y) : z ∈ way T x := (h.way_prefix h1).subset h2
theorem Good.below_anti {T : Kin} (h : Good T) {x y : Int} (h1 : y ∈ way T x) (h2 : x ∈ way T y) : x = y := by
  have e : way T x = way T y := (h.way_prefix h2).eq_of_length_le (h.way_prefix h1).length_le
  obtain ⟨p, hp⟩ := Option.isSome_iff_exists.1 (way_mem h2)
  obtain ⟨q, hq⟩ := Option.isSome_iff_exists.1 (way_mem h1)
  rw [(h.way_some hp).1, (h.way_some hq).1] at e
  exact (List.append_inj' e rfl).2 |> fun e => by simpa using e
theorem Good.way_pos {T : Kin} (h : Good T) {x : Int} (hx : (up T x).isSome = true) : 0 < (way T x).length := List.length_pos_of_mem (h.way_self hx)
/-- y is on the way to x just where it stands there at its own depth. -/
theorem Good.below_at {T : Kin} (h : Good T) {x y : Int} (hy : (up T y).isSome = true) : y ∈ way T x ↔ (way T x)[(way T y).length - 1]? = some y := by
  constructor
  · intro hm
    obtain ⟨p, hp⟩ := Option.isSome_iff_exists.1 hy
    have e := (h.way_some hp).1
    obtain ⟨r, hr⟩ := h.way_prefix hm
    rw [← hr, e]
    simp
  · intro he
    exact List.mem_of_getElem? he

/-- All numbers that a tenant can have, ascending. -/
def ids : List Int := (List.range' 1 999).map Int.ofNat
theorem mem_ids {x : Int} : x ∈ ids ↔ 1 ≤ x ∧ x ≤ 999 := by
  unfold ids
  rw [List.mem_map]
  constructor
  · rintro ⟨n, hn, rfl⟩
    have := List.mem_range'_1.1 hn
    simp; omega
  · intro h
    exact ⟨x.toNat, List.mem_range'_1.2 (by omega), by simp; omega⟩
theorem ids_lt : ids.Pairwise (· < ·) := by
  unfold ids
  rw [List.pairwise_map]
  exact (List.pairwise_lt_range' (s := 1) (n := 999)).imp fun h => by simp; omega
/-- Those next below x, and all, ascending. -/
def kids (T : Kin) (x : Int) : List Int := ids.filter fun i => decide (up T i = some x)
def alls (T : Kin) : List Int := ids.filter fun i => (up T i).isSome
theorem filter_sorted (f : Int → Bool) : (ids.filter f).mergeSort leI = ids.filter f :=
  List.mergeSort_of_pairwise ((ids_lt.filter f).imp fun h => by simp [leI]; omega)
theorem filter_nodup (f : Int → Bool) : (ids.filter f).Nodup := (ids_lt.filter f).imp fun h => by omega
/-- A row without repeats that has just those, sorted. -/
theorem sort_is {ss : List Int} {f : Int → Bool} (hn : ss.Nodup) (hm : ∀ x, x ∈ ss ↔ (x ∈ ids ∧ f x = true)) : ss.mergeSort leI = ids.filter f := by
  rw [← filter_sorted f]
  exact mergeSort_of_perm_i ((List.perm_ext_iff_of_nodup hn (filter_nodup f)).2 fun x => by rw [hm x, List.mem_filter])
theorem Good.kids_mem {T : Kin} (h : Good T) {x y : Int} : y ∈ kids T x ↔ up T y = some x := by
  unfold kids
  rw [List.mem_filter, mem_ids, decide_eq_true_eq]
  exact ⟨fun h => h.2, fun k => ⟨h.bounds k, k⟩⟩
theorem Good.alls_mem {T : Kin} (h : Good T) {y : Int} : y ∈ alls T ↔ (up T y).isSome = true := by
  unfold alls
  rw [List.mem_filter, mem_ids]
  exact ⟨fun h => h.2, fun k => by obtain ⟨p, hp⟩ := Option.isSome_iff_exists.1 k; exact ⟨h.bounds hp, k⟩⟩
theorem up_mem {T : Kin} {x p : Int} (h : up T x = some p) : (x, p) ∈ T := by
  induction T with
  | nil => cases h
  | cons a T ih =>
    obtain ⟨a, q⟩ := a
    rw [up_cons] at h
    by_cases e : x = a
    · rw [if_pos e] at h; obtain rfl := Option.some.inj h; subst e; simp
    · rw [if_neg e] at h; exact List.mem_cons_of_mem _ (ih h)
theorem Good.mem_up {T : Kin} (h : Good T) {x p : Int} (hm : (x, p) ∈ T) : up T x = some p := by
  induction h with
  | root => simp at hm; obtain ⟨rfl, rfl⟩ := hm; rfl
  | @add T a q g n l hh u ih =>
    rw [up_cons]
    rcases List.mem_cons.1 hm with e | hm
    · simp at e; rw [if_pos e.1, e.2]
    · have := ih hm
      rw [if_neg (fun e => by subst e; rw [n] at this; cases this)]; exact this
theorem Good.keys_nodup {T : Kin} (h : Good T) : (T.map (·.1)).Nodup := by
  induction h with
  | root => simp
  | @add T a q g n l hh u ih =>
    rw [List.map_cons, List.nodup_cons]
    refine ⟨fun hm => ?_, ih⟩
    obtain ⟨⟨b, r⟩, hb, e⟩ := List.mem_map.1 hm
    simp at e; subst e
    rw [g.mem_up hb] at n; cases n
theorem Good.alls_len {T : Kin} (h : Good T) : (alls T).length = T.length := by
  have := (List.perm_ext_iff_of_nodup (filter_nodup _) h.keys_nodup).2 fun x => (show x ∈ alls T ↔ x ∈ T.map (·.1) from by
    rw [h.alls_mem, List.mem_map]
    constructor
    · intro k; obtain ⟨p, hp⟩ := Option.isSome_iff_exists.1 k; exact ⟨(x, p), up_mem hp, rfl⟩
    · rintro ⟨⟨a, p⟩, hm, rfl⟩; rw [h.mem_up hm]; rfl)
  have := this.length_eq
  unfold alls
  rw [this, List.length_map]
theorem Good.kids_len {T : Kin} (h : Good T) (x : Int) : (kids T x).length = (T.filter fun e => decide (e.2 = x)).length := by
  have hn : ((T.filter fun e => decide (e.2 = x)).map (·.1)).Nodup := h.keys_nodup.sublist (List.filter_sublist.map _)
  have := (List.perm_ext_iff_of_nodup (filter_nodup _) hn).2 fun y => (show y ∈ kids T x ↔ y ∈ (T.filter fun e => decide (e.2 = x)).map (·.1) from by
    rw [h.kids_mem, List.mem_map]
    constructor
    · intro k; exact ⟨(y, x), List.mem_filter.2 ⟨up_mem k, by simp⟩, rfl⟩
    · rintro ⟨⟨a, p⟩, hm, rfl⟩
      obtain ⟨h1, h2⟩ := List.mem_filter.1 hm
      simp at h2; subst h2
      exact h.mem_up h1)
  have := this.length_eq
  unfold kids
  rw [this, List.length_map]

/-- Who is left when x has gone. -/
def rid (T : Kin) (x : Int) : Kin := T.filter fun e => decide (e.1 ≠ x)
theorem rid_cons (T : Kin) (a p x : Int) : rid ((a, p) :: T) x = if a = x then rid T x else (a, p) :: rid T x := by
  unfold rid
  rw [List.filter_cons]
  by_cases e : a = x
  · rw [if_neg (by simp [e]), if_pos e]
  · rw [if_pos (by simp [e]), if_neg e]
theorem up_rid (T : Kin) (x y : Int) : up (rid T x) y = if y = x then none else up T y := by
  induction T with
  | nil => simp [rid, up]
  | cons a T ih =>
    obtain ⟨a, p⟩ := a
    rw [rid_cons, up_cons]
    by_cases e : a = x
    · rw [if_pos e, ih]
      by_cases ey : y = x
      · rw [if_pos ey, if_pos ey]
      · rw [if_neg ey, if_neg ey, if_neg (by omega)]
    · rw [if_neg e, up_cons, ih]
      by_cases ey : y = a
      · rw [if_pos ey, if_pos ey, if_neg (by omega)]
      · rw [if_neg ey, if_neg ey]
theorem rid_none {T : Kin} (h : Good T) {x : Int} (hx : up T x = none) : rid T x = T := by
  unfold rid
  rw [List.filter_eq_self]
  rintro ⟨a, p⟩ hm
  have := h.mem_up hm
  simp
  intro e; subst e; rw [this] at hx; cases hx
theorem Good.struck {T : Kin} (h : Good T) {x : Int} (h1 : x ≠ 1) (hk : ∀ y, up T y ≠ some x) : Good (rid T x) := by
  induction h with
  | root => rw [rid_cons, if_neg (fun e => h1 e.symm)]; exact .root
  | @add T a p g n l hh u ih =>
    rw [rid_cons]
    by_cases e : a = x
    · subst e; rw [if_pos rfl, rid_none g n]; exact g
    · rw [if_neg e]
      refine .add (ih fun y hy => ?_) (by rw [up_rid, if_neg e]; exact n) l hh ?_
      · have := hk y
        rw [up_cons, if_neg (fun ey => by subst ey; rw [n] at hy; cases hy)] at this
        exact this hy
      · rw [up_rid, if_neg]
        · exact u
        · intro ep
          have := hk a
          rw [up_cons, if_pos rfl, ep] at this
          exact this rfl
theorem Good.struck_len {T : Kin} (h : Good T) {x : Int} (hx : (up T x).isSome = true) : (rid T x).length + 1 = T.length := by
  induction h with
  | root =>
    rw [up_cons] at hx
    by_cases e : x = 1
    · subst e; rfl
    · rw [if_neg e] at hx; cases hx
  | @add T a p g n l hh u ih =>
    rw [rid_cons]
    by_cases e : a = x
    · subst e; rw [if_pos rfl, rid_none g n]; rfl
    · rw [if_neg e]
      rw [up_cons, if_neg (fun k => e k.symm)] at hx
      have := ih hx
      simp; omega
theorem Good.no_kid {T : Kin} (h : Good T) {x : Int} (hk : kids T x = []) (y : Int) : up T y ≠ some x := fun e => by
  have := h.kids_mem.2 e
  rw [hk] at this; cases this

/-- What an addition answers, and what there is behind it. -/
def addErr (T : Kin) (x p : Int) : Nat := if x < 1 ∨ 999 < x then 1 else if (up T x).isSome then 6 else if (up T p).isNone then 5 else if 16 ≤ T.length then 7 else 0
def added (T : Kin) (x p : Int) : Kin := if addErr T x p = 0 then (x, p) :: T else T
def dropErr (T : Kin) (x : Int) : Nat := if (up T x).isNone then 5 else if x = 1 ∨ kids T x ≠ [] then 13 else 0
def dropped (T : Kin) (x : Int) : Kin := if dropErr T x = 0 then rid T x else T
theorem add_zero {T : Kin} {x p : Int} (h : addErr T x p = 0) : 1 ≤ x ∧ x ≤ 999 ∧ up T x = none ∧ (up T p).isSome = true ∧ T.length < 16 := by
  unfold addErr at h
  split at h
  · cases h
  · split at h
    · cases h
    · split at h
      · cases h
      · split at h
        · cases h
        · rename_i h1 h2 h3 h4
          refine ⟨by omega, by omega, by simpa using h2, by simpa [Option.isSome_iff_ne_none] using h3, by omega⟩
theorem Good.added {T : Kin} (h : Good T) (x p : Int) : Good (added T x p) := by
  unfold Go.Proofs.YtaibmdjcppeopaaDoor.added
  split
  · rename_i e
    obtain ⟨h1, h2, h3, h4, _⟩ := add_zero e
    exact .add h h3 h1 h2 h4
  · exact h
theorem added_len {T : Kin} (h : T.length ≤ 16) (x p : Int) : (added T x p).length ≤ 16 := by
  unfold added
  split
  · rename_i e
    have := (add_zero e).2.2.2.2
    simp; omega
  · exact h
theorem drop_zero {T : Kin} {x : Int} (h : dropErr T x = 0) : (up T x).isSome = true ∧ x ≠ 1 ∧ kids T x = [] := by
  unfold dropErr at h
  split at h
  · cases h
  · split at h
    · cases h
    · rename_i h1 h2
      refine ⟨by simpa [Option.isSome_iff_ne_none] using h1, fun e => h2 (.inl e), ?_⟩
      cases hk : kids T x with
      | nil => rfl
      | cons a l => exact absurd (.inr (by rw [hk]; simp)) h2
theorem Good.dropped {T : Kin} (h : Good T) (x : Int) : Good (dropped T x) := by
  unfold Go.Proofs.YtaibmdjcppeopaaDoor.dropped
  split
  · rename_i e
    obtain ⟨_, h2, h3⟩ := drop_zero e
    exact h.struck h2 (h.no_kid h3)
  · exact h
theorem dropped_len {T : Kin} (h : T.length ≤ 16) (x : Int) : (dropped T x).length ≤ 16 := by
  unfold dropped
  split
  · exact Nat.le_trans (List.length_filter_le _ _) h
  · exact h
end Go.Proofs.YtaibmdjcppeopaaDoor
