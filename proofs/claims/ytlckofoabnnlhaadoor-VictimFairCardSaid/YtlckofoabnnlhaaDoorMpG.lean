/- Maps keyed by whatever Go takes as a key, with whatever elements, told as rows of pairs; the walk's laws at them. Condition: the map is one that the calls have made; how a key reads is told by a KeyKit. -/
import Derived.Test.YtlckofoabnnlhaaDoorProg
import Derived.Lib.SlKeysI
import Derived.Maps.RangeWalk
import Derived.Maps.OwnSet
import Derived.Lib.Hide
import Derived.LoopTactic
import Derived.Maps.AppendAt
namespace Go.Proofs.YtlckofoabnnlhaaDoor
open Go Go.RowKit Go.Maps

section
variable {κ α : Type}
/-- The sum over all, of what a key and its element count. -/
def totK (f : κ → α → Int) : List (κ × α) → Int
  | [] => 0
  | (a, v) :: T => f a v + totK f T
/-- The sum over those that are not left. -/
def partK (f : κ → α → Int) (left : κ → Bool) : List (κ × α) → Int
  | [] => 0
  | (a, v) :: T => (if left a then 0 else f a v) + partK f left T
/-- What a key's element counts, none counts nothing. -/
def atK (f : κ → α → Int) (x : κ) : Option α → Int
  | some v => f x v
  | none => 0
theorem totK_cons (f : κ → α → Int) (a : κ) (v : α) (T : List (κ × α)) : totK f ((a, v) :: T) = f a v + totK f T := rfl
theorem partK_cons (f : κ → α → Int) (left : κ → Bool) (a : κ) (v : α) (T : List (κ × α)) : partK f left ((a, v) :: T) = (if left a then 0 else f a v) + partK f left T := rfl
theorem partK_bounds (f : κ → α → Int) (left : κ → Bool) {T : List (κ × α)} (h : ∀ p ∈ T, 0 ≤ f p.1 p.2) : 0 ≤ partK f left T ∧ partK f left T ≤ totK f T := by
  induction T with
  | nil => exact ⟨Int.le_refl _, Int.le_refl _⟩
  | cons p T ih =>
    obtain ⟨a, v⟩ := p
    have h1 := ih fun p hp => h p (List.mem_cons_of_mem _ hp)
    have h2 := h (a, v) (List.mem_cons_self ..)
    rw [partK_cons, totK_cons]
    simp only at h2
    split <;> omega
theorem totK_nonneg (f : κ → α → Int) {T : List (κ × α)} (h : ∀ p ∈ T, 0 ≤ f p.1 p.2) : 0 ≤ totK f T := by
  induction T with
  | nil => exact Int.le_refl _
  | cons p T ih =>
    obtain ⟨a, v⟩ := p
    have h1 := ih fun p hp => h p (List.mem_cons_of_mem _ hp)
    have h2 := h (a, v) (List.mem_cons_self ..)
    rw [totK_cons]; simp only at h2; omega
theorem perm_sumI {l l' : List Int} (h : l.Perm l') : l.sum = l'.sum := by
  induction h with
  | nil => rfl
  | cons x _ ih => rw [List.sum_cons, List.sum_cons, ih]
  | swap x y l => simp only [List.sum_cons]; omega
  | trans _ _ a b => exact a.trans b
/-- How the keys of a type read: their values, their literals, which of them are keys. -/
structure KeyKit (P : Program) (k : TypeId) (kv : κ → Value) (kl : κ → Lit) (ok : κ → Prop) : Prop where
  keyed : Keyed P k
  of : ∀ {x}, ok x → keyOf P k (kv x) = some (kl x)
  inv : ∀ {v l}, keyOf P k v = some l → ∃ x, ok x ∧ v = kv x
  vinj : ∀ {x y}, kv x = kv y → x = y
variable {P : Program} {k : TypeId} {kv : κ → Value} {kl : κ → Lit} {ok : κ → Prop}
theorem KeyKit.inj (K : KeyKit P k kv kl ok) {x y : κ} (hx : ok x) (hy : ok y) (h : kl x = kl y) : x = y := K.vinj (K.keyed.inj (K.of hx) (by rw [h]; exact K.of hy))
theorem KeyKit.lit (K : KeyKit P k kv kl ok) {x : κ} (hx : ok x) : WideAt.IsKeyLit (kl x) := K.keyed.key (K.of hx)
theorem KeyKit.invl (K : KeyKit P k kv kl ok) {v : Value} {l : Lit} (h : keyOf P k v = some l) : ∃ x, ok x ∧ v = kv x ∧ l = kl x := by
  obtain ⟨x, hx, rfl⟩ := K.inv h
  exact ⟨x, hx, rfl, by rw [K.of hx] at h; exact (Option.some.inj h).symm⟩
end

section
variable {κ α : Type} [DecidableEq κ] {P : Program} {k : TypeId} {kv : κ → Value} {kl : κ → Lit} {ok : κ → Prop}
/-- What a row of pairs has at a key. -/
def look : List (κ × α) → κ → Option α
  | [], _ => none
  | (a, v) :: T, x => if x = a then some v else look T x
def strike : List (κ × α) → κ → List (κ × α)
  | [], _ => []
  | (a, v) :: T, x => if x = a then strike T x else (a, v) :: strike T x
def enter (T : List (κ × α)) (x : κ) (v : α) : List (κ × α) := (x, v) :: strike T x
/-- No key twice. -/
def Apart : List (κ × α) → Prop
  | [] => True
  | (a, _) :: T => look T a = none ∧ Apart T
theorem look_cons (T : List (κ × α)) (a : κ) (v : α) (x : κ) : look ((a, v) :: T) x = if x = a then some v else look T x := rfl
theorem strike_cons (T : List (κ × α)) (a : κ) (v : α) (x : κ) : strike ((a, v) :: T) x = if x = a then strike T x else (a, v) :: strike T x := rfl
theorem look_strike (T : List (κ × α)) (x y : κ) : look (strike T x) y = if y = x then none else look T y := by
  induction T with
  | nil => simp [strike, look]
  | cons p T ih =>
    obtain ⟨a, v⟩ := p
    rw [strike_cons, look_cons]
    by_cases e : x = a
    · rw [if_pos e, ih]
      by_cases k : y = x
      · rw [if_pos k, if_pos k]
      · rw [if_neg k, if_neg k, if_neg (fun h => k (h.trans e.symm))]
    · rw [if_neg e, look_cons, ih]
      by_cases k : y = x
      · rw [if_pos k, if_neg (fun h => e (k.symm.trans h)), if_pos k]
      · rw [if_neg k, if_neg k]
theorem look_enter (T : List (κ × α)) (x : κ) (v : α) (y : κ) : look (enter T x v) y = if y = x then some v else look T y := by
  unfold enter
  rw [look_cons, look_strike]
  by_cases k : y = x
  · rw [if_pos k, if_pos k]
  · rw [if_neg k, if_neg k, if_neg k]
theorem strike_none {T : List (κ × α)} {x : κ} (h : look T x = none) : strike T x = T := by
  induction T with
  | nil => rfl
  | cons p T ih =>
    obtain ⟨a, v⟩ := p
    rw [look_cons] at h
    by_cases e : x = a
    · rw [if_pos e] at h; cases h
    · rw [if_neg e] at h; rw [strike_cons, if_neg e, ih h]
theorem Apart.strike {T : List (κ × α)} (h : Apart T) (x : κ) : Apart (strike T x) := by
  induction T with
  | nil => exact h
  | cons p T ih =>
    obtain ⟨a, v⟩ := p
    rw [strike_cons]
    by_cases e : x = a
    · rw [if_pos e]; exact ih h.2
    · rw [if_neg e]; exact ⟨by rw [look_strike, h.1, ite_self], ih h.2⟩
theorem Apart.enter {T : List (κ × α)} (h : Apart T) (x : κ) (v : α) : Apart (enter T x v) := ⟨by rw [look_strike, if_pos rfl], h.strike x⟩
theorem strike_len {T : List (κ × α)} (h : Apart T) {x : κ} (hx : (look T x).isSome = true) : (strike T x).length + 1 = T.length := by
  induction T with
  | nil => cases hx
  | cons p T ih =>
    obtain ⟨a, v⟩ := p
    rw [strike_cons]
    by_cases e : x = a
    · subst e; rw [if_pos rfl, strike_none h.1]; rfl
    · rw [look_cons, if_neg e] at hx
      rw [if_neg e, List.length_cons, List.length_cons, ih h.2 hx]
theorem strike_le (T : List (κ × α)) (x : κ) : (strike T x).length ≤ T.length := by
  induction T with
  | nil => exact Nat.le_refl _
  | cons p T ih =>
    obtain ⟨a, v⟩ := p
    rw [strike_cons]
    by_cases e : x = a
    · rw [if_pos e, List.length_cons]; omega
    · rw [if_neg e, List.length_cons, List.length_cons]; omega
theorem enter_len {T : List (κ × α)} (h : Apart T) (x : κ) (v : α) : (enter T x v).length = if (look T x).isSome then T.length else T.length + 1 := by
  unfold enter
  cases e : look T x with
  | none => rw [strike_none e]; rfl
  | some u => rw [List.length_cons, strike_len h (by rw [e]; rfl)]; rfl
theorem enter_le (T : List (κ × α)) (x : κ) (v : α) : (enter T x v).length ≤ T.length + 1 := by
  have := strike_le T x
  unfold enter; rw [List.length_cons]; omega
theorem look_mem {T : List (κ × α)} {x : κ} {v : α} (h : look T x = some v) : (x, v) ∈ T := by
  induction T with
  | nil => cases h
  | cons p T ih =>
    obtain ⟨a, u⟩ := p
    rw [look_cons] at h
    by_cases e : x = a
    · rw [if_pos e] at h; cases h; subst e; exact List.mem_cons_self ..
    · rw [if_neg e] at h; exact List.mem_cons_of_mem _ (ih h)
theorem look_keys {T : List (κ × α)} {x : κ} : (look T x).isSome = true ↔ x ∈ T.map (·.1) := by
  induction T with
  | nil => simp [look]
  | cons p T ih =>
    obtain ⟨a, u⟩ := p
    rw [look_cons]
    by_cases e : x = a
    · subst e; simp
    · rw [if_neg e, ih]; simp [e]
theorem Apart.nodup {T : List (κ × α)} (h : Apart T) : (T.map (·.1)).Nodup := by
  induction T with
  | nil => exact List.nodup_nil
  | cons p T ih =>
    obtain ⟨a, v⟩ := p
    rw [List.map_cons]
    refine List.nodup_cons.2 ⟨fun hm => ?_, ih h.2⟩
    have := look_keys.2 hm
    rw [h.1] at this; cases this
theorem mem_look {T : List (κ × α)} (h : Apart T) {x : κ} {v : α} (hm : (x, v) ∈ T) : look T x = some v := by
  induction T with
  | nil => cases hm
  | cons p T ih =>
    obtain ⟨a, u⟩ := p
    rcases List.mem_cons.1 hm with e | hm'
    · cases e; rw [look_cons, if_pos rfl]
    · have hs : (look T x).isSome = true := look_keys.2 (List.mem_map.2 ⟨_, hm', rfl⟩)
      rw [look_cons, if_neg (fun e => by subst e; rw [h.1] at hs; cases hs)]
      exact ih h.2 hm'
theorem strike_mem {T : List (κ × α)} {x : κ} {p : κ × α} (h : p ∈ strike T x) : p ∈ T := by
  induction T with
  | nil => exact h
  | cons q T ih =>
    obtain ⟨a, v⟩ := q
    rw [strike_cons] at h
    split at h
    · exact List.mem_cons_of_mem _ (ih h)
    · rcases List.mem_cons.1 h with e | e
      · rw [e]; exact List.mem_cons_self ..
      · exact List.mem_cons_of_mem _ (ih e)

theorem totK_strike (f : κ → α → Int) {T : List (κ × α)} (h : Apart T) (x : κ) : totK f (strike T x) = totK f T - atK f x (look T x) := by
  induction T with
  | nil => rfl
  | cons p T ih =>
    obtain ⟨a, v⟩ := p
    rw [strike_cons, look_cons, totK_cons]
    by_cases e : x = a
    · subst e; rw [if_pos rfl, if_pos rfl, strike_none h.1]; simp only [atK]; omega
    · rw [if_neg e, if_neg e, totK_cons, ih h.2]; omega
theorem totK_enter (f : κ → α → Int) {T : List (κ × α)} (h : Apart T) (x : κ) (v : α) : totK f (enter T x v) = totK f T - atK f x (look T x) + f x v := by
  unfold enter
  rw [totK_cons, totK_strike f h]; omega
theorem partK_other (f : κ → α → Int) (left : κ → Bool) {T : List (κ × α)} {y : κ} (h : look T y = none) : partK f (fun z => left z && !decide (z = y)) T = partK f left T := by
  induction T with
  | nil => rfl
  | cons p T ih =>
    obtain ⟨a, v⟩ := p
    rw [look_cons] at h
    by_cases e : y = a
    · rw [if_pos e] at h; cases h
    · rw [if_neg e] at h
      rw [partK_cons, partK_cons, ih h]
      have : ¬ a = y := fun k => e k.symm
      simp [this]
theorem partK_take (f : κ → α → Int) (left : κ → Bool) {T : List (κ × α)} (h : Apart T) {y : κ} {v : α} (hl : left y = true) (hy : look T y = some v) :
    partK f (fun z => left z && !decide (z = y)) T = partK f left T + f y v := by
  induction T with
  | nil => cases hy
  | cons p T ih =>
    obtain ⟨a, u⟩ := p
    rw [look_cons] at hy
    by_cases e : y = a
    · subst e
      rw [if_pos rfl] at hy; cases hy
      rw [partK_cons, partK_cons, partK_other f left h.1]
      simp [hl]; omega
    · rw [if_neg e] at hy
      rw [partK_cons, partK_cons, ih h.2 hy]
      have : ¬ a = y := fun k => e k.symm
      simp [this]; omega
theorem partK_all (f : κ → α → Int) {left : κ → Bool} {T : List (κ × α)} (h : ∀ x, (look T x).isSome = true → left x = false) (ha : Apart T) : partK f left T = totK f T := by
  induction T with
  | nil => rfl
  | cons p T ih =>
    obtain ⟨a, v⟩ := p
    rw [partK_cons, totK_cons, ih (fun x hx => h x (by rw [look_cons]; split <;> first | rfl | exact hx)) ha.2, h a (by rw [look_cons, if_pos rfl]; rfl)]; rfl
theorem partK_none (f : κ → α → Int) {left : κ → Bool} (T : List (κ × α)) (h : ∀ x, (look T x).isSome = true → left x = true) : partK f left T = 0 := by
  induction T with
  | nil => rfl
  | cons p T ih =>
    obtain ⟨a, v⟩ := p
    rw [partK_cons, ih (fun x hx => h x (by rw [look_cons]; split <;> first | rfl | exact hx)), h a (by rw [look_cons, if_pos rfl]; rfl)]; rfl
theorem totK_one (f : κ → α → Int) {T : List (κ × α)} (h : ∀ p ∈ T, 0 ≤ f p.1 p.2) {x : κ} {v : α} (hx : look T x = some v) : f x v ≤ totK f T := by
  induction T with
  | nil => cases hx
  | cons p T ih =>
    obtain ⟨a, u⟩ := p
    have h1 := totK_nonneg f fun p hp => h p (List.mem_cons_of_mem _ hp)
    have h2 := h (a, u) (List.mem_cons_self ..)
    rw [totK_cons]
    rw [look_cons] at hx
    simp only at h2
    by_cases e : x = a
    · rw [if_pos e] at hx; cases hx; subst e; omega
    · rw [if_neg e] at hx
      have := ih (fun p hp => h p (List.mem_cons_of_mem _ hp)) hx
      omega
/-- The sum over the keys, in whatever order, is the sum over all. -/
theorem perm_totK (f : κ → α → Int) (z : α) {T : List (κ × α)} (h : Apart T) {L : List κ} (hL : L.Perm (T.map (·.1))) : (L.map fun x => f x ((look T x).getD z)).sum = totK f T := by
  rw [perm_sumI (hL.map fun x => f x ((look T x).getD z))]
  have e2 : ∀ S : List (κ × α), (∀ p ∈ S, look T p.1 = some p.2) → ((S.map (·.1)).map fun x => f x ((look T x).getD z)).sum = totK f S := by
    intro S hS
    induction S with
    | nil => rfl
    | cons p S ih =>
      have hp := hS p (List.mem_cons_self ..)
      obtain ⟨a, v⟩ := p
      rw [List.map_cons, List.map_cons, List.sum_cons, ih (fun p hp => hS p (List.mem_cons_of_mem _ hp)), totK_cons]
      simp only at hp
      simp only [hp, Option.getD_some]
  exact e2 T fun p hp => mem_look h hp

/-- An element as it is. -/
def raw : Value → Option (DataW Value × List MemPlace) := fun v => some (.held v, [])
theorem KeyKit.same (K : KeyKit P k kv kl ok) {x y : κ} (hx : ok x) (hy : ok y) : (kl x).sameKey (kl y) = decide (x = y) := by
  by_cases e : x = y
  · subst e; rw [WideAt.sameKey_self (K.lit hx)]; simp
  · cases hs : (kl x).sameKey (kl y)
    · simp [e]
    · exact absurd (K.inj hx hy (WideAt.sameKey_eq hs)) e

/-- A map's datum holds the pairs of T. -/
structure MeansG (enc : α → Value) (kl : κ → Lit) (ok : κ → Prop) (D : DataW Value) (T : List (κ × α)) : Prop where
  has : ∀ x, ok x → Maps.has D (kl x) = (look T x).isSome
  at_ : ∀ x, ok x → ∀ z : DataW Value, D.atKey (kl x) z = ((look T x).map fun v => DataW.held (enc v)).getD z
  size : Maps.size D = T.length
  apart : Apart T
  keys : ∀ p ∈ T, ok p.1
theorem MeansG.empty (enc : α → Value) (kl : κ → Lit) (ok : κ → Prop) : MeansG enc kl ok (.map []) ([] : List (κ × α)) := ⟨fun _ _ => rfl, fun _ _ _ => rfl, rfl, trivial, fun _ h => (by cases h)⟩
theorem MeansG.put {enc : α → Value} (K : KeyKit P k kv kl ok) {D : DataW Value} {T : List (κ × α)} (h : MeansG enc kl ok D T) (t : Tidy D) {x : κ} (hx : ok x) (v : α) : MeansG enc kl ok (D.put (kl x) (.held (enc v))) (enter T x v) where
  has := fun y hy => by
    rw [look_enter]
    by_cases e : y = x
    · subst e; rw [has_put_same (k := kl y) t.isMap (K.lit hy), if_pos rfl]; rfl
    · rw [has_put_other (fun he => e (K.inj hy hx he)), if_neg e]; exact h.has y hy
  at_ := fun y hy z => by
    rw [look_enter]
    by_cases e : y = x
    · subst e; rw [atKey_put_same (k := kl y) t.isMap (K.lit hy), if_pos rfl]; rfl
    · rw [atKey_put_other (fun he => e (K.inj hy hx he)), if_neg e]; exact h.at_ y hy z
  size := by rw [size_put t, h.has x hx, enter_len h.apart, h.size]
  apart := h.apart.enter x v
  keys := fun p hp => by
    rcases List.mem_cons.1 hp with e | e
    · rw [e]; exact hx
    · exact h.keys p (strike_mem e)
theorem MeansG.del {enc : α → Value} (K : KeyKit P k kv kl ok) {D : DataW Value} {T : List (κ × α)} (h : MeansG enc kl ok D T) (t : Tidy D) {x : κ} (hx : ok x) : MeansG enc kl ok (D.del (kl x)) (strike T x) where
  has := fun y hy => by
    rw [look_strike]
    by_cases e : y = x
    · subst e; rw [has_del_same, if_pos rfl]; rfl
    · rw [has_del_other (fun he => e (K.inj hy hx he)), if_neg e]; exact h.has y hy
  at_ := fun y hy z => by
    rw [look_strike]
    by_cases e : y = x
    · subst e; rw [atKey_del_same, if_pos rfl]; rfl
    · rw [atKey_del_other (fun he => e (K.inj hy hx he)), if_neg e]; exact h.at_ y hy z
  size := by
    have h1 := size_del (k := kl x) t
    rw [h.has x hx] at h1
    cases e : look T x with
    | none => rw [e] at h1; simp at h1; rw [strike_none e, h1, h.size]
    | some v =>
      rw [e] at h1
      have := strike_len h.apart (x := x) (by rw [e]; rfl)
      have := h.size
      simp at h1; omega
  apart := h.apart.strike x
  keys := fun p hp => h.keys p (strike_mem hp)

theorem own_fitG {w : World} {R : Value → Option (DataW Value × List MemPlace)} {b n m : Nat} {D : DataW Value} (h : w.ownsMap P k R b n D) (hm : Maps.size D ≤ m) : w.ownsMap P k R b m D := by
  obtain ⟨es, c, hb, F, hs, rfl⟩ := h
  refine ⟨es, c, hb, F, ?_, rfl⟩
  simpa [Maps.size, length_sorted] using hm

variable {enc : α → Value} {w : World} {b : Nat} {T : List (κ × α)}
/-- Block b is a map that has the pairs of T. -/
def MapG (P : Program) (k : TypeId) (kl : κ → Lit) (ok : κ → Prop) (enc : α → Value) (w : World) (b : Nat) (T : List (κ × α)) : Prop := ∃ D : DataW Value, w.ownsMap P k raw b T.length D ∧ MeansG enc kl ok D T
theorem MapG.lt (h : MapG P k kl ok enc w b T) : b < w.heap.size := by obtain ⟨_, h, _⟩ := h; exact h.lt
theorem MapG.same {w' : World} (h : MapG P k kl ok enc w b T) (e : w'.heap[b]? = w.heap[b]?) : MapG P k kl ok enc w' b T := by
  obtain ⟨D, ⟨es, c, hb, r⟩, m⟩ := h
  exact ⟨D, ⟨es, c, e.trans hb, r⟩, m⟩
theorem MapG.on {w' : World} {B : Nat} (h : MapG P k kl ok enc w b T) (hb : Below B w w') (hB : w.heap.size ≤ B) : MapG P k kl ok enc w' b T := h.same (hb.block _ (Nat.lt_of_lt_of_le h.lt hB))
theorem MapG.alloc (h : MapG P k kl ok enc w b T) (o : Obj) : MapG P k kl ok enc (w.alloc o) b T := h.on ((Below.refl _ w).alloc (Nat.le_refl _) o) (Nat.le_refl _)
theorem MapG.apart (h : MapG P k kl ok enc w b T) : Apart T := by obtain ⟨_, _, m⟩ := h; exact m.apart
theorem MapG.keys (h : MapG P k kl ok enc w b T) : ∀ p ∈ T, ok p.1 := by obtain ⟨_, _, m⟩ := h; exact m.keys
theorem MapG.okKey (h : MapG P k kl ok enc w b T) {x : κ} {v : α} (hx : look T x = some v) : ok x := h.keys _ (look_mem hx)
theorem MapG.made (P : Program) (k : TypeId) (kl : κ → Lit) (ok : κ → Prop) (enc : α → Value) (w : World) : MapG P k kl ok enc (w.alloc (.map #[] 0)) w.heap.size [] := ⟨_, World.ownsMap_made _ _ _ _, MeansG.empty enc kl ok⟩
end

section
variable {κ α : Type} [DecidableEq κ] {P : Program} (w : World) {ops : Array Oper} {rest : List Oper} {o : Oper} {a : Act} {Q : Exit → Act → World → Prop} {k : TypeId} {kv : κ → Value} {kl : κ → Lit} {ok : κ → Prop}
/-- 'm[x]'. -/
theorem wpList_lookG (K : KeyKit P k kv kl ok) (hg : o.guard = none) (m x : Operand) (t : TypeId) (hop : o.op = Op.lookup t m x false) (e : TypeId) (ht : P.underlying t = some (.map k e)) (enc : α → Value) (z : α)
    (hz : (zeroValue e).run P w = .ok (enc z) w) (b : Nat) (T : List (κ × α)) (hm : a.eval m = .map (some b)) (h : MapG P k kl ok enc w b T) (y : κ) (hx : a.eval x = kv y) (hy : ok y) (val : Value) (hval : enc ((look T y).getD z) = val)
    (hK : wpList P ops Q rest (a.put o.dst val) w) : wpList P ops Q (o :: rest) a w := by
  obtain ⟨D, hown, hme⟩ := h
  refine wpList_plain hg fun K' hK' => ?_
  obtain ⟨v, ps, hrun, hR⟩ := hown.lookup K.keyed ht hz (zd := .held (enc z)) (zp := []) rfl (K.of hy)
  have hv : v = val := by
    have e1 : DataW.held v = D.atKey (kl y) (.held (enc z)) := congrArg Prod.fst (Option.some.inj hR)
    rw [hme.at_ y hy] at e1
    rw [← hval]
    cases e : look T y with
    | none => rw [e] at e1; exact DataW.held.inj e1
    | some u => rw [e] at e1; exact DataW.held.inj e1
  subst hv
  unfold Oper.wp
  simp [execOp, hop, hm, hx, hrun, Result.andThen]
  exact hK' _ _ hK
/-- 'v, ok := m[x]'. -/
theorem wpList_lookG_ok (K : KeyKit P k kv kl ok) (hg : o.guard = none) (m x : Operand) (t : TypeId) (hop : o.op = Op.lookup t m x true) (e : TypeId) (ht : P.underlying t = some (.map k e)) (enc : α → Value) (z : α)
    (hz : (zeroValue e).run P w = .ok (enc z) w) (b : Nat) (T : List (κ × α)) (hm : a.eval m = .map (some b)) (h : MapG P k kl ok enc w b T) (y : κ) (hx : a.eval x = kv y) (hy : ok y) (val : Value) (hval : enc ((look T y).getD z) = val)
    (hit : Bool) (hhit : (look T y).isSome = hit) (hK : wpList P ops Q rest (a.put o.dst (.tuple #[val, .bool hit])) w) : wpList P ops Q (o :: rest) a w := by
  obtain ⟨D, hown, hme⟩ := h
  refine wpList_lookup_own_ok w hg m x t hop k e K.keyed ht raw hz (.held (enc z)) [] rfl b T.length D hm hown _ _ hx (K.of hy) fun v ps hR => ?_
  have hv : v = val := by
    have e1 : DataW.held v = D.atKey (kl y) (.held (enc z)) := congrArg Prod.fst (Option.some.inj hR)
    rw [hme.at_ y hy] at e1
    rw [← hval]
    cases e : look T y with
    | none => rw [e] at e1; exact DataW.held.inj e1
    | some u => rw [e] at e1; exact DataW.held.inj e1
  subst hv
  rw [hme.has y hy, hhit]
  exact hK
/-- 'm[x] = v'. -/
theorem wpList_putG (K : KeyKit P k kv kl ok) (hg : o.guard = none) (m x v : Operand) (t : TypeId) (hop : o.op = Op.mapUpdate t m x v) (e : TypeId) (ht : P.underlying t = some (.map k e)) (enc : α → Value)
    (b : Nat) (T : List (κ × α)) (hm : a.eval m = .map (some b)) (h : MapG P k kl ok enc w b T) (hn : T.length < maxLen) (y : κ) (hx : a.eval x = kv y) (hy : ok y) (u : α) (hv : a.eval v = enc u)
    (hK : ∀ w', MapG P k kl ok enc w' b (enter T y u) → w.grownBy w' (some b) → wpList P ops Q rest (a.put o.dst undef) w') : wpList P ops Q (o :: rest) a w := by
  obtain ⟨D, hown, hme⟩ := h
  refine wpList_mapUpdate_own w hg m x v t hop k e K.keyed ht raw b T.length D hm hown hn _ _ _ hx hv (K.of hy) (.held (enc u)) [] rfl fun w' hown' hgr => ?_
  have hme' := hme.put K (hown.tidy K.keyed) hy u
  exact hK w' ⟨_, own_fitG hown' (Nat.le_of_eq hme'.size), hme'⟩ hgr
/-- 'map[..]{x: v}': an entry that a literal fills. -/
theorem wpList_insertG (K : KeyKit P k kv kl ok) (hg : o.guard = none) (m x v : Operand) (t : TypeId) (hop : o.op = Op.insert t m x v) (e : TypeId) (ht : P.underlying t = some (.map k e)) (enc : α → Value)
    (b : Nat) (T : List (κ × α)) (hm : a.eval m = .map (some b)) (h : MapG P k kl ok enc w b T) (hn : T.length < maxLen) (y : κ) (hx : a.eval x = kv y) (hy : ok y) (u : α) (hv : a.eval v = enc u)
    (hK : ∀ w', MapG P k kl ok enc w' b (enter T y u) → w.grownBy w' (some b) → wpList P ops Q rest (a.put o.dst undef) w') : wpList P ops Q (o :: rest) a w := by
  obtain ⟨D, hown, hme⟩ := h
  refine wpList_plain hg fun K' hK' => ?_
  obtain ⟨w', hrun, r1, r2⟩ := hown.update K.keyed ht hn (val := enc u) (d := .held (enc u)) (ps := []) (K.of hy) rfl
  unfold Oper.wp
  simp [execOp, hop, hm, hx, hv, hrun, Result.andThen]
  have hme' := hme.put K (hown.tidy K.keyed) hy u
  exact hK' _ _ (hK w' ⟨_, own_fitG r1 (Nat.le_of_eq hme'.size), hme'⟩ r2)
/-- 'delete(m, x)'. -/
theorem wpList_delG (K : KeyKit P k kv kl ok) (hg : o.guard = none) (m x : Operand) (t : TypeId) (hop : o.op = Op.call { callee := Callee.builtin Builtin.delete, args := #[m, x], argTypes := #[t, k] }) (e : TypeId) (ht : P.underlying t = some (.map k e))
    (enc : α → Value) (b : Nat) (T : List (κ × α)) (hm : a.eval m = .map (some b)) (h : MapG P k kl ok enc w b T) (y : κ) (hx : a.eval x = kv y) (hy : ok y)
    (hK : ∀ w', MapG P k kl ok enc w' b (strike T y) → w.grownBy w' (some b) → wpList P ops Q rest (a.put o.dst (.tuple #[])) w') : wpList P ops Q (o :: rest) a w := by
  obtain ⟨D, hown, hme⟩ := h
  refine wpList_delete_own w hg m x t k hop e K.keyed ht raw b T.length D hm hown _ _ hx (K.of hy) fun w' hown' hturn => ?_
  have hme' := hme.del K (hown.tidy K.keyed) hy
  exact hK w' ⟨_, own_fitG hown' (Nat.le_of_eq hme'.size), hme'⟩ hturn.grown
/-- 'len(m)'. -/
theorem wpList_lenG (hg : o.guard = none) (m : Operand) (t : TypeId) (hop : o.op = Op.call { callee := Callee.builtin Builtin.len, args := #[m], argTypes := #[t] }) (e : TypeId) (ht : P.underlying t = some (.map k e))
    (enc : α → Value) (b : Nat) (T : List (κ × α)) (hm : a.eval m = .map (some b)) (h : MapG P k kl ok enc w b T) (hK : wpList P ops Q rest (a.put o.dst (.int .i64 (T.length : Int))) w) : wpList P ops Q (o :: rest) a w := by
  obtain ⟨D, hown, hme⟩ := h
  refine wpList_len_own w hg m t hop k e ht raw b T.length D hm hown ?_
  rw [hme.size]; exact hK

/-- A range over a map: which entries are still to come. -/
def RangeG (P : Program) (k : TypeId) (kl : κ → Lit) (ok : κ → Prop) (enc : α → Value) (w : World) (b r : Nat) (T : List (κ × α)) (left : κ → Bool) (cnt : Nat) : Prop :=
  ∃ (D : DataW Value) (lf : Lit → Bool), w.ranges P k raw b r T.length D lf cnt ∧ MeansG enc kl ok D T ∧ ∀ x, ok x → lf (kl x) = left x
variable {enc : α → Value} {b r cnt : Nat} {T : List (κ × α)} {left : κ → Bool} {w}
theorem RangeG.left_eq (h : RangeG P k kl ok enc w b r T left cnt) : w.rangeLeft b r = cnt := by obtain ⟨D, lf, h, _⟩ := h; exact h.left_eq
theorem RangeG.map (h : RangeG P k kl ok enc w b r T left cnt) : MapG P k kl ok enc w b T := by obtain ⟨D, lf, h, m, _⟩ := h; exact ⟨D, h.owns, m⟩
theorem RangeG.kept {w' : World} {row : Option Nat} (h : RangeG P k kl ok enc w b r T left cnt) (hg : w.grownBy w' row) (hb' : some b ≠ row) (hr' : some r ≠ row) : RangeG P k kl ok enc w' b r T left cnt := by obtain ⟨D, lf, h, m⟩ := h; exact ⟨D, lf, h.kept hg hb' hr', m⟩
theorem RangeG.alloc (h : RangeG P k kl ok enc w b r T left cnt) (o : Obj) : RangeG P k kl ok enc (w.alloc o) b r T left cnt := by obtain ⟨D, lf, h, m⟩ := h; exact ⟨D, lf, h.alloc o, m⟩
variable (w)
theorem wpList_rangeG (K : KeyKit P k kv kl ok) (hg : o.guard = none) (m : Operand) (t : TypeId) (hop : o.op = Op.range t m) (e : TypeId) (ht : P.underlying t = some (.map k e)) (enc : α → Value) (b : Nat) (T : List (κ × α))
    (hm : a.eval m = .map (some b)) (h : MapG P k kl ok enc w b T)
    (hK : ∀ w' left, RangeG P k kl ok enc w' b w.heap.size T left T.length → (∀ x, ok x → left x = (look T x).isSome) → w.grownBy w' none → w'.heap.size = w.heap.size + 1 → wpList P ops Q rest (a.put o.dst (.pointer (some ⟨w.heap.size, 0, none⟩))) w') :
    wpList P ops Q (o :: rest) a w := by
  obtain ⟨D, hown, hme⟩ := h
  refine wpList_range_own w hg m t hop k e K.keyed ht raw b T.length D hm hown fun w' hrg hgr hs => ?_
  rw [hme.size] at hrg
  exact hK w' (fun x => Maps.has D (kl x)) ⟨D, _, hrg, hme, fun _ _ => rfl⟩ hme.has hgr hs
/-- A range's step, key and element. -/
theorem wpList_nextG (K : KeyKit P k kv kl ok) (hg : o.guard = none) (it : Operand) (hop : o.op = Op.next it false) (enc : α → Value) (b r : Nat) (T : List (κ × α)) (left : κ → Bool) (cnt : Nat)
    (hit : a.eval it = .pointer (some ⟨r, 0, none⟩)) (h : RangeG P k kl ok enc w b r T left cnt)
    (hDone : cnt = 0 → (∀ x, ok x → left x = false) → wpList P ops Q rest (a.put o.dst (.tuple #[.bool false])) w)
    (hMore : ∀ (x : κ) (v : α) (w' : World) (cnt' : Nat), ok x → left x = true → look T x = some v → RangeG P k kl ok enc w' b r T (fun z => left z && !decide (z = x)) cnt' → cnt' < cnt →
      w.grownBy w' (some r) → w'.heap.size = w.heap.size → (Instr.entry (.pointer (some ⟨r, 0, none⟩))).run P w' = .ok (.tuple #[kv x, enc v]) w' → wpList P ops Q rest (a.put o.dst (.tuple #[.bool true, kv x, enc v])) w') :
    wpList P ops Q (o :: rest) a w := by
  obtain ⟨D, lf, hrg, hme, hlf⟩ := h
  refine wpList_next_ranges w hg it hop k K.keyed raw kv id (fun key kl' hkey => by obtain ⟨x, _, hx⟩ := K.inv hkey; exact ⟨x, hx⟩) (fun v _ _ => ⟨v, rfl⟩)
    b r T.length D lf cnt hit hrg (fun hc hl => hDone hc fun x hx => by rw [← hlf x hx]; exact hl _) (fun x c kl' y w' cnt' hkey hlk hv hat hrg' hlt hgr hsz hen => ?_)
  obtain ⟨x', hx', ex, rfl⟩ := K.invl hkey
  obtain rfl := K.vinj ex
  have h1 := has_true_of_atKey hat
  rw [hme.has x hx'] at h1
  obtain ⟨v, hv'⟩ := Option.isSome_iff_exists.1 h1
  have h2 := (hme.at_ x hx' .nil).symm.trans (hat .nil)
  rw [hv'] at h2
  have h3 : y = (.held c, []) := (Option.some.inj hv).symm
  rw [h3] at h2
  have h4 : enc v = c := DataW.held.inj h2
  rw [id, ← h4] at hen ⊢
  exact hMore x v w' cnt' hx' (by rw [← hlf x hx']; exact hlk) hv' ⟨D, _, hrg', hme, fun z hz => by rw [hlf z hz, K.same hz hx']⟩ hlt hgr hsz hen
end

/-! ### the keys that have come -/
section
variable {κ α : Type} [DecidableEq κ] {kl : κ → Lit} {ok : κ → Prop}
/-- The keys that have come: no key twice; a key is on the list just where the row has it and it is no longer to come. -/
def CameG (T : List (κ × α)) (ok : κ → Prop) (left : κ → Bool) (ss : List κ) : Prop := ss.Nodup ∧ ∀ x, ok x → (x ∈ ss ↔ ((look T x).isSome = true ∧ left x = false))
theorem CameG.start (T : List (κ × α)) {left : κ → Bool} (h : ∀ x, ok x → left x = (look T x).isSome) : CameG T ok left [] := ⟨List.nodup_nil, fun x hx => by rw [h x hx]; cases (look T x).isSome <;> simp⟩
theorem CameG.step {T : List (κ × α)} {left : κ → Bool} {ss : List κ} (h : CameG T ok left ss) {x : κ} (hx : ok x) (hl : left x = true) {v : α} (hv : look T x = some v) : CameG T ok (fun z => left z && !decide (z = x)) (ss ++ [x]) := by
  have hnew : x ∉ ss := fun hm => by have := ((h.2 x hx).1 hm).2; rw [hl] at this; cases this
  refine ⟨List.nodup_append.2 ⟨h.1, by simp, fun a ha b hb => by simp at hb; subst hb; exact fun e => hnew (e ▸ ha)⟩, fun y hy => ?_⟩
  by_cases e : y = x
  · subst e; simp [hv]
  · simp [h.2 y hy, e]
theorem CameG.perm {T : List (κ × α)} {left : κ → Bool} {ss : List κ} (h : CameG T ok left ss) (ha : Apart T) (hk : ∀ p ∈ T, ok p.1) (hs : ∀ x ∈ ss, ok x) (hl : ∀ x, ok x → left x = false) : ss.Perm (T.map (·.1)) := by
  refine (List.perm_ext_iff_of_nodup h.1 ha.nodup).2 fun x => ?_
  rw [← look_keys]
  constructor
  · intro hx; exact ((h.2 x (hs x hx)).1 hx).1
  · intro hx
    have hok : ok x := by obtain ⟨p, hp, rfl⟩ := List.mem_map.1 (look_keys.1 hx); exact hk p hp
    exact (h.2 x hok).2 ⟨hx, hl x hok⟩
end
/-- 'm[x]' as a run. -/
theorem run_lookG {κ α : Type} [DecidableEq κ] {P : Program} {k : TypeId} {kv : κ → Value} {kl : κ → Lit} {ok : κ → Prop} (K : KeyKit P k kv kl ok) {t e : TypeId} (ht : P.underlying t = some (.map k e)) {enc : α → Value} {z : α} {w : World}
    (hz : (zeroValue e).run P w = .ok (enc z) w) {b : Nat} {T : List (κ × α)} (h : MapG P k kl ok enc w b T) {y : κ} (hy : ok y) : (Instr.lookup t (.map (some b)) (kv y) false).run P w = .ok (enc ((look T y).getD z)) w := by
  obtain ⟨D, hown, hme⟩ := h
  obtain ⟨v, ps, hrun, hR⟩ := hown.lookup K.keyed ht hz (zd := .held (enc z)) (zp := []) rfl (K.of hy)
  have e1 : DataW.held v = D.atKey (kl y) (.held (enc z)) := congrArg Prod.fst (Option.some.inj hR)
  rw [hme.at_ y hy] at e1
  have hv : v = enc ((look T y).getD z) := by
    cases e : look T y with
    | none => rw [e] at e1; exact DataW.held.inj e1
    | some u => rw [e] at e1; exact DataW.held.inj e1
  rw [← hv]; exact hrun
/-- 'v, ok := m[x]' as a run. -/
theorem run_lookG_ok {κ α : Type} [DecidableEq κ] {P : Program} {k : TypeId} {kv : κ → Value} {kl : κ → Lit} {ok : κ → Prop} (K : KeyKit P k kv kl ok) {t e : TypeId} (ht : P.underlying t = some (.map k e)) {enc : α → Value} {z : α} {w : World}
    (hz : (zeroValue e).run P w = .ok (enc z) w) {b : Nat} {T : List (κ × α)} (h : MapG P k kl ok enc w b T) {y : κ} (hy : ok y) : (Instr.lookup t (.map (some b)) (kv y) true).run P w = .ok (.tuple #[enc ((look T y).getD z), .bool (look T y).isSome]) w := by
  obtain ⟨D, hown, hme⟩ := h
  obtain ⟨v, ps, hrun, hR⟩ := hown.look_ok K.keyed ht hz (zd := .held (enc z)) (zp := []) rfl (K.of hy)
  have e1 : DataW.held v = D.atKey (kl y) (.held (enc z)) := congrArg Prod.fst (Option.some.inj hR)
  rw [hme.at_ y hy] at e1
  have hv : v = enc ((look T y).getD z) := by
    cases e : look T y with
    | none => rw [e] at e1; exact DataW.held.inj e1
    | some u => rw [e] at e1; exact DataW.held.inj e1
  rw [← hv, hrun, hme.has y hy]
end Go.Proofs.YtlckofoabnnlhaaDoor
