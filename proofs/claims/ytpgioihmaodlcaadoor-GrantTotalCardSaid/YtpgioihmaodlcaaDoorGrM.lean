/- Accounts of quota in plain words: who has what where, what a deed changes, which error it has, what is issued. No program, no conditions. -/
import Derived.Test.YtpgioihmaodlcaaDoorMpG
import Derived.Test.YtpgioihmaodlcaaDoorVecM
namespace Go.Proofs.YtpgioihmaodlcaaDoor
open Go Go.RowKit

/-- The amount of one resource. -/
def comp (r : Nat) (x : V4) : Int := match r with | 0 => x.a | 1 => x.b | 2 => x.c | _ => x.d
def z4 : V4 := ⟨0, 0, 0, 0⟩
def pv (x y : V4) : V4 := ⟨x.a + y.a, x.b + y.b, x.c + y.c, x.d + y.d⟩
def mv (x y : V4) : V4 := ⟨x.a - y.a, x.b - y.b, x.c - y.c, x.d - y.d⟩
theorem comp_pv (r : Nat) (x y : V4) : comp r (pv x y) = comp r x + comp r y := by rcases r with _ | _ | _ | r <;> rfl
theorem comp_mv (r : Nat) (x y : V4) : comp r (mv x y) = comp r x - comp r y := by rcases r with _ | _ | _ | r <;> rfl
theorem comp_z4 (r : Nat) : comp r z4 = 0 := by rcases r with _ | _ | _ | r <;> rfl
theorem comp_ext {x y : V4} (h : ∀ r, comp r x = comp r y) : x = y := V4.eq (h 0) (h 1) (h 2) (h 3)
theorem good_comp {x : V4} : goodV x = true ↔ ∀ r, 0 ≤ comp r x ∧ comp r x ≤ 1099511627776 := by
  rw [good_iff]
  constructor
  · rintro ⟨h0, h1, h2, h3⟩ r
    rcases r with _ | _ | _ | r
    · exact h0
    · exact h1
    · exact h2
    · exact h3
  · intro h; exact ⟨h 0, h 1, h 2, h 3⟩
theorem fits_comp {x y : V4} : fitsV x y = true ↔ ∀ r, comp r x ≤ comp r y := by
  unfold fitsV
  simp only [Bool.and_eq_true, decide_eq_true_eq]
  constructor
  · rintro ⟨⟨⟨h0, h1⟩, h2⟩, h3⟩ r
    rcases r with _ | _ | _ | r
    · exact h0
    · exact h1
    · exact h2
    · exact h3
  · intro h; exact ⟨⟨⟨h 0, h 1⟩, h 2⟩, h 3⟩

/-- An account: what is free, charged, held. -/
structure Acc where
  f : V4
  c : V4
  h : V4
theorem Acc.eq {x y : Acc} (hf : x.f = y.f) (hc : x.c = y.c) (hh : x.h = y.h) : x = y := by cases x; cases y; simp only at hf hc hh; rw [hf, hc, hh]
instance : DecidableEq Acc := fun x y =>
  if h : x.f = y.f ∧ x.c = y.c ∧ x.h = y.h then isTrue (Acc.eq h.1 h.2.1 h.2.2) else isFalse fun e => h (by rw [e]; exact ⟨rfl, rfl, rfl⟩)
def zA : Acc := ⟨z4, z4, z4⟩
/-- What an account has of one resource, all in all. -/
def allOf (r : Nat) (x : Acc) : Int := comp r x.f + comp r x.c + comp r x.h
theorem allOf_zA (r : Nat) : allOf r zA = 0 := by unfold allOf zA; simp only [comp_z4]; rfl
/-- The accounts that are not empty, by key: tenant, cell, band, window. -/
abbrev Grs := List (V4 × Acc)
def acc (T : Grs) (k : V4) : Acc := (look T k).getD zA
def moves (x less more : V4) : V4 := pv (mv x less) more
def chA (x less more : Acc) : Acc := ⟨moves x.f less.f more.f, moves x.c less.c more.c, moves x.h less.h more.h⟩
def chT (T : Grs) (k : V4) (less more : Acc) : Grs := if chA (acc T k) less more = zA then strike T k else enter T k (chA (acc T k) less more)
theorem comp_moves (r : Nat) (x l m : V4) : comp r (moves x l m) = comp r x - comp r l + comp r m := by unfold moves; rw [comp_pv, comp_mv]
theorem allOf_chA (r : Nat) (x l m : Acc) : allOf r (chA x l m) = allOf r x - allOf r l + allOf r m := by
  unfold allOf chA; simp only [comp_moves]; omega
/-- Two keys at the same place. -/
def sameP (k p : V4) : Bool := decide (k.b = p.b ∧ k.c = p.c ∧ k.d = p.d)
theorem sameP_iff {k p : V4} : sameP k p = true ↔ k.b = p.b ∧ k.c = p.c ∧ k.d = p.d := by unfold sameP; rw [decide_eq_true_eq]
theorem sameP_self (k : V4) : sameP k k = true := sameP_iff.2 ⟨rfl, rfl, rfl⟩
def part1 (p : V4) (r : Nat) (k : V4) (x : Acc) : Int := if sameP k p then allOf r x else 0
/-- What is issued of one resource at a place. -/
def iss (T : Grs) (p : V4) (r : Nat) : Int := totK (part1 p r) T
def issV (T : Grs) (p : V4) : V4 := ⟨iss T p 0, iss T p 1, iss T p 2, iss T p 3⟩
theorem comp_issV (T : Grs) (p : V4) (r : Nat) : comp r (issV T p) = iss T p r := by rcases r with _ | _ | _ | r <;> rfl
theorem part1_same {p q : V4} (h : sameP p q = true) (r : Nat) : part1 p r = part1 q r := by
  funext k x
  have e : sameP k p = sameP k q := by
    rw [Bool.eq_iff_iff, sameP_iff, sameP_iff]
    have := sameP_iff.1 h
    omega
  unfold part1; rw [e]
theorem iss_same {p q : V4} (h : sameP p q = true) (T : Grs) (r : Nat) : iss T p r = iss T q r := by unfold iss; rw [part1_same h]
/-- None below nothing. -/
def posA (x : Acc) : Prop := ∀ r, 0 ≤ comp r x.f ∧ 0 ≤ comp r x.c ∧ 0 ≤ comp r x.h
theorem posA.all {x : Acc} (h : posA x) (r : Nat) : 0 ≤ allOf r x := by have := h r; unfold allOf; omega
theorem posA_zA : posA zA := fun r => by unfold zA; simp only [comp_z4]; exact ⟨Int.le_refl _, Int.le_refl _, Int.le_refl _⟩
/-- No key twice, none below nothing, none empty, at each place at most the most. -/
structure Solid (T : Grs) : Prop where
  apart : Apart T
  each : ∀ k x, look T k = some x → posA x ∧ x ≠ zA
  most : ∀ p r, iss T p r ≤ 1099511627776

theorem Solid.empty : Solid [] := ⟨trivial, fun _ _ h => (by cases h), fun _ _ => by unfold iss totK; decide⟩
theorem acc_pos {T : Grs} (h : Solid T) (k : V4) : posA (acc T k) := by
  unfold acc
  cases e : look T k with
  | none => exact posA_zA
  | some x => exact (h.each k x e).1
theorem Solid.parts {T : Grs} (h : Solid T) (p : V4) (r : Nat) : ∀ q ∈ T, 0 ≤ part1 p r q.1 q.2 := fun q hq => by
  unfold part1
  split
  · exact (h.each q.1 q.2 (mem_look h.apart hq)).1.all r
  · exact Int.le_refl _
theorem Solid.nonneg {T : Grs} (h : Solid T) (p : V4) (r : Nat) : 0 ≤ iss T p r := totK_nonneg _ (h.parts p r)
theorem atK_part (T : Grs) (p k : V4) (r : Nat) : atK (part1 p r) k (look T k) = if sameP k p then allOf r (acc T k) else 0 := by
  unfold acc
  cases look T k with
  | none => simp only [atK, Option.getD_none, allOf_zA, ite_self]
  | some x => rfl
theorem Solid.one {T : Grs} (h : Solid T) (k : V4) (r : Nat) : allOf r (acc T k) ≤ iss T k r := by
  unfold acc
  cases e : look T k with
  | none => rw [Option.getD_none, allOf_zA]; exact h.nonneg k r
  | some x =>
    have := totK_one (part1 k r) (h.parts k r) e
    rw [Option.getD_some]
    unfold part1 at this
    rw [if_pos (sameP_self k)] at this
    exact this
theorem Solid.upto {T : Grs} (h : Solid T) (k : V4) (r : Nat) : allOf r (acc T k) ≤ 1099511627776 := Int.le_trans (h.one k r) (h.most k r)
theorem Solid.goodF {T : Grs} (h : Solid T) (k : V4) : goodV (acc T k).f = true := good_comp.2 fun r => by have h1 := acc_pos h k r; have h2 := h.upto k r; unfold allOf at h2; omega
theorem Solid.goodC {T : Grs} (h : Solid T) (k : V4) : goodV (acc T k).c = true := good_comp.2 fun r => by have h1 := acc_pos h k r; have h2 := h.upto k r; unfold allOf at h2; omega
theorem Solid.goodH {T : Grs} (h : Solid T) (k : V4) : goodV (acc T k).h = true := good_comp.2 fun r => by have h1 := acc_pos h k r; have h2 := h.upto k r; unfold allOf at h2; omega
theorem acc_chT (T : Grs) (k : V4) (l m : Acc) (y : V4) : acc (chT T k l m) y = if y = k then chA (acc T k) l m else acc T y := by
  unfold chT
  by_cases e : chA (acc T k) l m = zA
  · rw [if_pos e]
    by_cases i : y = k
    · rw [if_pos i, e, acc, look_strike, if_pos i]; rfl
    · rw [if_neg i, acc, look_strike, if_neg i]; rfl
  · rw [if_neg e]
    by_cases i : y = k
    · rw [if_pos i, acc, look_enter, if_pos i]; rfl
    · rw [if_neg i, acc, look_enter, if_neg i]; rfl
theorem iss_chT {T : Grs} (h : Apart T) (k : V4) (l m : Acc) (p : V4) (r : Nat) : iss (chT T k l m) p r = iss T p r + (if sameP k p then allOf r m - allOf r l else 0) := by
  unfold chT iss
  by_cases e : chA (acc T k) l m = zA
  · rw [if_pos e, totK_strike _ h, atK_part]
    have h1 := allOf_chA r (acc T k) l m
    rw [e, allOf_zA] at h1
    split <;> omega
  · rw [if_neg e, totK_enter _ h, atK_part]
    have h1 := allOf_chA r (acc T k) l m
    unfold part1
    split <;> omega
theorem chT_len (T : Grs) (k : V4) (l m : Acc) : (chT T k l m).length ≤ T.length + 1 := by
  unfold chT
  split
  · have := strike_le T k; omega
  · exact enter_le T k _
theorem Solid.chT {T : Grs} (h : Solid T) {k : V4} {l m : Acc} (hp : posA (chA (acc T k) l m)) (hm : ∀ r, iss T k r + (allOf r m - allOf r l) ≤ 1099511627776) : Solid (chT T k l m) where
  apart := by unfold Proofs.YtpgioihmaodlcaaDoor.chT; split <;> first | exact h.apart.strike k | exact h.apart.enter k _
  each := fun y x hy => by
    unfold Proofs.YtpgioihmaodlcaaDoor.chT at hy
    by_cases e : chA (acc T k) l m = zA
    · rw [if_pos e, look_strike] at hy
      by_cases i : y = k
      · rw [if_pos i] at hy; cases hy
      · rw [if_neg i] at hy; exact h.each y x hy
    · rw [if_neg e, look_enter] at hy
      by_cases i : y = k
      · rw [if_pos i] at hy; cases hy; exact ⟨hp, e⟩
      · rw [if_neg i] at hy; exact h.each y x hy
  most := fun p r => by
    rw [iss_chT h.apart]
    by_cases e : sameP k p = true
    · rw [if_pos e, ← iss_same e]; exact hm r
    · rw [if_neg e]; have := h.most p r; omega
theorem empty_of_acc {T : Grs} (h : Solid T) (ha : ∀ k, acc T k = zA) : T = [] := by
  cases T with
  | nil => rfl
  | cons q T =>
    obtain ⟨k, x⟩ := q
    have e : look ((k, x) :: T) k = some x := by rw [look_cons, if_pos rfl]
    have h1 := ha k
    unfold acc at h1
    rw [e, Option.getD_some] at h1
    exact absurd h1 (h.each k x e).2

/-- Quota that is free, charged, held. -/
def fA (v : V4) : Acc := ⟨v, z4, z4⟩
def cA (v : V4) : Acc := ⟨z4, v, z4⟩
def hA (v : V4) : Acc := ⟨z4, z4, v⟩
theorem allOf_fA (r : Nat) (v : V4) : allOf r (fA v) = comp r v := by unfold allOf fA; simp only [comp_z4]; omega
theorem allOf_cA (r : Nat) (v : V4) : allOf r (cA v) = comp r v := by unfold allOf cA; simp only [comp_z4]; omega
theorem allOf_hA (r : Nat) (v : V4) : allOf r (hA v) = comp r v := by unfold allOf hA; simp only [comp_z4]; omega
def atT (k : V4) (t : Int) : V4 := ⟨t, k.b, k.c, k.d⟩
theorem sameP_at (k : V4) (t : Int) (p : V4) : sameP (atT k t) p = sameP k p := rfl
def giveErr (T : Grs) (k v : V4) : Nat := if goodV v = true then (if goodV (pv (issV T k) v) = true then 0 else 4) else 1
def takeErr (T : Grs) (k v : V4) : Nat := if goodV v = true then (if fitsV v (acc T k).f = true then 0 else 8) else 1
def backErr (x v : V4) : Nat := if goodV v = true then (if fitsV v x = true then 0 else 13) else 1
def given (T : Grs) (k v : V4) : Grs := if giveErr T k v = 0 then chT T k zA (fA v) else T
def taken (T : Grs) (k v : V4) : Grs := if takeErr T k v = 0 then chT T k (fA v) zA else T
def charged (T : Grs) (k v : V4) : Grs := if takeErr T k v = 0 then chT T k (fA v) (cA v) else T
def uncharged (T : Grs) (k v : V4) : Grs := if backErr (acc T k).c v = 0 then chT T k (cA v) (fA v) else T
def holds (T : Grs) (k v : V4) : Grs := if takeErr T k v = 0 then chT T k (fA v) (hA v) else T
def moved (T : Grs) (k : V4) (t : Int) (v : V4) : Grs := if takeErr T k v = 0 then chT (chT T k (fA v) zA) (atT k t) zA (fA v) else T
def passed (T : Grs) (k : V4) (t : Int) (v : V4) : Grs := if backErr (acc T k).h v = 0 then chT (chT T k (hA v) zA) (atT k t) zA (fA v) else T
theorem giveErr_zero {T : Grs} {k v : V4} (h : giveErr T k v = 0) : goodV v = true ∧ goodV (pv (issV T k) v) = true := by
  unfold giveErr at h
  by_cases c1 : goodV v = true
  · rw [if_pos c1] at h
    by_cases c2 : goodV (pv (issV T k) v) = true
    · exact ⟨c1, c2⟩
    · rw [if_neg c2] at h; cases h
  · rw [if_neg c1] at h; cases h
theorem takeErr_zero {T : Grs} {k v : V4} (h : takeErr T k v = 0) : goodV v = true ∧ fitsV v (acc T k).f = true := by
  unfold takeErr at h
  by_cases c1 : goodV v = true
  · rw [if_pos c1] at h
    by_cases c2 : fitsV v (acc T k).f = true
    · exact ⟨c1, c2⟩
    · rw [if_neg c2] at h; cases h
  · rw [if_neg c1] at h; cases h
theorem backErr_zero {x v : V4} (h : backErr x v = 0) : goodV v = true ∧ fitsV v x = true := by
  unfold backErr at h
  by_cases c1 : goodV v = true
  · rw [if_pos c1] at h
    by_cases c2 : fitsV v x = true
    · exact ⟨c1, c2⟩
    · rw [if_neg c2] at h; cases h
  · rw [if_neg c1] at h; cases h
theorem giveErr_le (T : Grs) (k v : V4) : giveErr T k v ≤ 14 := by unfold giveErr; split <;> first | omega | (split <;> omega)
theorem takeErr_le (T : Grs) (k v : V4) : takeErr T k v ≤ 14 := by unfold takeErr; split <;> first | omega | (split <;> omega)
theorem backErr_le (x v : V4) : backErr x v ≤ 14 := by unfold backErr; split <;> first | omega | (split <;> omega)
theorem posA_ch {x l m : Acc} (hf : ∀ r, comp r l.f ≤ comp r x.f + comp r m.f) (hc : ∀ r, comp r l.c ≤ comp r x.c + comp r m.c) (hh : ∀ r, comp r l.h ≤ comp r x.h + comp r m.h) : posA (chA x l m) := fun r => by
  have h1 := hf r; have h2 := hc r; have h3 := hh r
  unfold chA
  simp only [comp_moves]
  omega
/-- Each deed that is done keeps the accounts solid. -/
theorem Solid.ch1 {T : Grs} (h : Solid T) {k v : V4} (hv : goodV v = true) (hg : goodV (pv (issV T k) v) = true) : Solid (Proofs.YtpgioihmaodlcaaDoor.chT T k zA (fA v)) := by
  have h1 := good_comp.1 hv; have h2 := good_comp.1 hg; have h3 := acc_pos h k
  refine h.chT (posA_ch (fun r => ?_) (fun r => ?_) fun r => ?_) fun r => ?_
  · have := h1 r; have := h3 r; simp only [zA, fA, comp_z4]; omega
  · have := h3 r; simp only [zA, fA, comp_z4]; omega
  · have := h3 r; simp only [zA, fA, comp_z4]; omega
  · have := h2 r; rw [comp_pv, comp_issV] at this; rw [allOf_fA, allOf_zA]; omega
theorem Solid.ch2 {T : Grs} (h : Solid T) {k v : V4} (hv : goodV v = true) (hg : fitsV v (acc T k).f = true) : Solid (Proofs.YtpgioihmaodlcaaDoor.chT T k (fA v) zA) := by
  have h1 := good_comp.1 hv; have h2 := fits_comp.1 hg; have h3 := acc_pos h k
  refine h.chT (posA_ch (fun r => ?_) (fun r => ?_) fun r => ?_) fun r => ?_
  · have := h2 r; simp only [zA, fA, comp_z4]; omega
  · have := h3 r; simp only [zA, fA, comp_z4]; omega
  · have := h3 r; simp only [zA, fA, comp_z4]; omega
  · have := h1 r; have := h.most k r; rw [allOf_fA, allOf_zA]; omega
theorem Solid.ch3 {T : Grs} (h : Solid T) {k v : V4} (hv : goodV v = true) (hg : fitsV v (acc T k).f = true) : Solid (Proofs.YtpgioihmaodlcaaDoor.chT T k (fA v) (cA v)) := by
  have h1 := good_comp.1 hv; have h2 := fits_comp.1 hg; have h3 := acc_pos h k
  refine h.chT (posA_ch (fun r => ?_) (fun r => ?_) fun r => ?_) fun r => ?_
  · have := h2 r; simp only [cA, fA, comp_z4]; omega
  · have := h1 r; have := h3 r; simp only [cA, fA, comp_z4]; omega
  · have := h3 r; simp only [cA, fA, comp_z4]; omega
  · have := h.most k r; rw [allOf_fA, allOf_cA]; omega
theorem Solid.ch4 {T : Grs} (h : Solid T) {k v : V4} (hv : goodV v = true) (hg : fitsV v (acc T k).c = true) : Solid (Proofs.YtpgioihmaodlcaaDoor.chT T k (cA v) (fA v)) := by
  have h1 := good_comp.1 hv; have h2 := fits_comp.1 hg; have h3 := acc_pos h k
  refine h.chT (posA_ch (fun r => ?_) (fun r => ?_) fun r => ?_) fun r => ?_
  · have := h1 r; have := h3 r; simp only [cA, fA, comp_z4]; omega
  · have := h2 r; simp only [cA, fA, comp_z4]; omega
  · have := h3 r; simp only [cA, fA, comp_z4]; omega
  · have := h.most k r; rw [allOf_fA, allOf_cA]; omega
theorem Solid.ch5 {T : Grs} (h : Solid T) {k v : V4} (hv : goodV v = true) (hg : fitsV v (acc T k).f = true) : Solid (Proofs.YtpgioihmaodlcaaDoor.chT T k (fA v) (hA v)) := by
  have h1 := good_comp.1 hv; have h2 := fits_comp.1 hg; have h3 := acc_pos h k
  refine h.chT (posA_ch (fun r => ?_) (fun r => ?_) fun r => ?_) fun r => ?_
  · have := h2 r; simp only [hA, fA, comp_z4]; omega
  · have := h3 r; simp only [hA, fA, comp_z4]; omega
  · have := h1 r; have := h3 r; simp only [hA, fA, comp_z4]; omega
  · have := h.most k r; rw [allOf_fA, allOf_hA]; omega
theorem Solid.ch6 {T : Grs} (h : Solid T) {k v : V4} (hv : goodV v = true) (hg : fitsV v (acc T k).h = true) : Solid (Proofs.YtpgioihmaodlcaaDoor.chT T k (hA v) zA) := by
  have h1 := good_comp.1 hv; have h2 := fits_comp.1 hg; have h3 := acc_pos h k
  refine h.chT (posA_ch (fun r => ?_) (fun r => ?_) fun r => ?_) fun r => ?_
  · have := h3 r; simp only [zA, hA, comp_z4]; omega
  · have := h3 r; simp only [zA, hA, comp_z4]; omega
  · have := h2 r; simp only [zA, hA, comp_z4]; omega
  · have := h1 r; have := h.most k r; rw [allOf_hA, allOf_zA]; omega
/-- What has been taken at a place can be given there to whomever. -/
theorem Solid.ch7 {T : Grs} (h : Solid T) {k v : V4} (t : Int) {l : Acc} (hv : goodV v = true) (hl : ∀ r, allOf r l = comp r v) (hs : Solid (Proofs.YtpgioihmaodlcaaDoor.chT T k l zA)) : goodV (pv (issV (Proofs.YtpgioihmaodlcaaDoor.chT T k l zA) (atT k t)) v) = true := by
  refine good_comp.2 fun r => ?_
  rw [comp_pv, comp_issV]
  have h1 := good_comp.1 hv r
  have h2 := hs.nonneg (atT k t) r
  have h3 := iss_chT h.apart k l zA (atT k t) r
  rw [if_pos (show sameP k (atT k t) = true from sameP_iff.2 ⟨rfl, rfl, rfl⟩), allOf_zA, hl r] at h3
  have h4 := h.most (atT k t) r
  omega
theorem Solid.given {T : Grs} (h : Solid T) (k v : V4) : Solid (given T k v) := by
  unfold Proofs.YtpgioihmaodlcaaDoor.given
  split
  · rename_i e; obtain ⟨h1, h2⟩ := giveErr_zero e; exact h.ch1 h1 h2
  · exact h
theorem Solid.taken {T : Grs} (h : Solid T) (k v : V4) : Solid (taken T k v) := by
  unfold Proofs.YtpgioihmaodlcaaDoor.taken
  split
  · rename_i e; obtain ⟨h1, h2⟩ := takeErr_zero e; exact h.ch2 h1 h2
  · exact h
theorem Solid.charged {T : Grs} (h : Solid T) (k v : V4) : Solid (charged T k v) := by
  unfold Proofs.YtpgioihmaodlcaaDoor.charged
  split
  · rename_i e; obtain ⟨h1, h2⟩ := takeErr_zero e; exact h.ch3 h1 h2
  · exact h
theorem Solid.uncharged {T : Grs} (h : Solid T) (k v : V4) : Solid (uncharged T k v) := by
  unfold Proofs.YtpgioihmaodlcaaDoor.uncharged
  split
  · rename_i e; obtain ⟨h1, h2⟩ := backErr_zero e; exact h.ch4 h1 h2
  · exact h
theorem Solid.holds {T : Grs} (h : Solid T) (k v : V4) : Solid (holds T k v) := by
  unfold Proofs.YtpgioihmaodlcaaDoor.holds
  split
  · rename_i e; obtain ⟨h1, h2⟩ := takeErr_zero e; exact h.ch5 h1 h2
  · exact h
theorem Solid.moved {T : Grs} (h : Solid T) (k : V4) (t : Int) (v : V4) : Solid (moved T k t v) := by
  unfold Proofs.YtpgioihmaodlcaaDoor.moved
  split
  · rename_i e; obtain ⟨h1, h2⟩ := takeErr_zero e
    have hs := h.ch2 h1 h2
    exact hs.ch1 h1 (h.ch7 t h1 (fun r => allOf_fA r v) hs)
  · exact h
theorem Solid.passed {T : Grs} (h : Solid T) (k : V4) (t : Int) (v : V4) : Solid (passed T k t v) := by
  unfold Proofs.YtpgioihmaodlcaaDoor.passed
  split
  · rename_i e; obtain ⟨h1, h2⟩ := backErr_zero e
    have hs := h.ch6 h1 h2
    exact hs.ch1 h1 (h.ch7 t h1 (fun r => allOf_hA r v) hs)
  · exact h

/-- A deed of the law: 1 gives, 2 takes, 3 charges, 4 uncharges, 5 holds, 6 frees, 7 moves, another passes. -/
def deedErr (T : Grs) (n : Int) (k v : V4) : Nat :=
  if n = 1 then giveErr T k v else if n = 2 then takeErr T k v else if n = 3 then takeErr T k v else if n = 4 then backErr (acc T k).c v else if n = 5 then takeErr T k v else if n = 6 then backErr (acc T k).h v else if n = 7 then takeErr T k v else backErr (acc T k).h v
def deed (T : Grs) (n : Int) (k : V4) (t : Int) (v : V4) : Grs :=
  if n = 1 then given T k v else if n = 2 then taken T k v else if n = 3 then charged T k v else if n = 4 then uncharged T k v else if n = 5 then holds T k v else if n = 6 then passed T k k.a v else if n = 7 then moved T k t v else passed T k t v
theorem deedErr_le (T : Grs) (n : Int) (k v : V4) : deedErr T n k v ≤ 14 := by
  unfold deedErr
  split; exact giveErr_le ..
  split; exact takeErr_le ..
  split; exact takeErr_le ..
  split; exact backErr_le ..
  split; exact takeErr_le ..
  split; exact backErr_le ..
  split; exact takeErr_le ..
  exact backErr_le ..
theorem Solid.deed {T : Grs} (h : Solid T) (n : Int) (k : V4) (t : Int) (v : V4) : Solid (deed T n k t v) := by
  unfold Proofs.YtpgioihmaodlcaaDoor.deed
  split; exact h.given k v
  split; exact h.taken k v
  split; exact h.charged k v
  split; exact h.uncharged k v
  split; exact h.holds k v
  split; exact h.passed k _ v
  split; exact h.moved k t v
  exact h.passed k t v
theorem if_len {c : Prop} [Decidable c] {A B : Grs} {n : Nat} (hA : A.length ≤ n) (hB : B.length ≤ n) : (if c then A else B).length ≤ n := by split <;> assumption
theorem deed_len (T : Grs) (n : Int) (k : V4) (t : Int) (v : V4) : (deed T n k t v).length ≤ T.length + 2 := by
  have h0 : T.length ≤ T.length + 2 := by omega
  have c1 : ∀ l m, (chT T k l m).length ≤ T.length + 2 := fun l m => by have := chT_len T k l m; omega
  have c2 : ∀ y l l' m, (chT (chT T k l zA) y l' m).length ≤ T.length + 2 := fun y l l' m => by have := chT_len (chT T k l zA) y l' m; have := chT_len T k l zA; omega
  unfold deed given taken charged uncharged holds passed moved
  exact if_len (if_len (c1 _ _) h0) (if_len (if_len (c1 _ _) h0) (if_len (if_len (c1 _ _) h0) (if_len (if_len (c1 _ _) h0) (if_len (if_len (c1 _ _) h0) (if_len (if_len (c2 _ _ _ _) h0) (if_len (if_len (c2 _ _ _ _) h0) (if_len (c2 _ _ _ _) h0)))))))
/-- What a deed adds to what is issued. -/
def gain (T : Grs) (n : Int) (k v : V4) (r : Nat) : Int := if deedErr T n k v = 0 then (if n = 1 then comp r v else if n = 2 then -comp r v else 0) else 0
theorem iss_deed {T : Grs} (h : Solid T) (n : Int) (k : V4) (t : Int) (v : V4) (p : V4) (r : Nat) : iss (deed T n k t v) p r = iss T p r + (if sameP k p then gain T n k v r else 0) := by
  have w1 := fun l m => iss_chT h.apart k l m p r
  have two : ∀ (t : Int) (l : Acc), Apart (chT T k l zA) → allOf r l = comp r v → iss (chT (chT T k l zA) (atT k t) zA (fA v)) p r = iss T p r := fun t l ha hl => by
    rw [iss_chT ha, w1, sameP_at, allOf_zA, allOf_fA, hl]; split <;> omega
  unfold gain deedErr deed
  by_cases k1 : n = 1
  · simp only [if_pos k1, given]
    split
    · rw [w1, allOf_fA, allOf_zA]; split <;> omega
    · split <;> omega
  simp only [if_neg k1]
  by_cases k2 : n = 2
  · simp only [if_pos k2, taken]
    split
    · rw [w1, allOf_fA, allOf_zA]; split <;> omega
    · split <;> omega
  simp only [if_neg k2]
  by_cases k3 : n = 3
  · simp only [if_pos k3, charged]
    split
    · rw [w1, allOf_fA, allOf_cA]; split <;> omega
    · split <;> omega
  simp only [if_neg k3]
  by_cases k4 : n = 4
  · simp only [if_pos k4, uncharged]
    split
    · rw [w1, allOf_fA, allOf_cA]; split <;> omega
    · split <;> omega
  simp only [if_neg k4]
  by_cases k5 : n = 5
  · simp only [if_pos k5, holds]
    split
    · rw [w1, allOf_fA, allOf_hA]; split <;> omega
    · split <;> omega
  simp only [if_neg k5]
  by_cases k6 : n = 6
  · simp only [if_pos k6, passed]
    split
    · rename_i e; obtain ⟨e1, e2⟩ := backErr_zero e; rw [two _ _ (h.ch6 e1 e2).apart (allOf_hA r v)]; split <;> omega
    · split <;> omega
  simp only [if_neg k6]
  by_cases k7 : n = 7
  · simp only [if_pos k7, moved]
    split
    · rename_i e; obtain ⟨e1, e2⟩ := takeErr_zero e; rw [two _ _ (h.ch2 e1 e2).apart (allOf_fA r v)]; split <;> omega
    · split <;> omega
  · simp only [if_neg k7, passed]
    split
    · rename_i e; obtain ⟨e1, e2⟩ := backErr_zero e; rw [two _ _ (h.ch6 e1 e2).apart (allOf_hA r v)]; split <;> omega
    · split <;> omega
theorem deed_bad {T : Grs} {n : Int} {k v : V4} (t : Int) (h : deedErr T n k v ≠ 0) : deed T n k t v = T := by
  unfold deedErr at h
  unfold deed
  by_cases k1 : n = 1
  · rw [if_pos k1] at h ⊢; rw [given, if_neg h]
  rw [if_neg k1] at h ⊢
  by_cases k2 : n = 2
  · rw [if_pos k2] at h ⊢; rw [taken, if_neg h]
  rw [if_neg k2] at h ⊢
  by_cases k3 : n = 3
  · rw [if_pos k3] at h ⊢; rw [charged, if_neg h]
  rw [if_neg k3] at h ⊢
  by_cases k4 : n = 4
  · rw [if_pos k4] at h ⊢; rw [uncharged, if_neg h]
  rw [if_neg k4] at h ⊢
  by_cases k5 : n = 5
  · rw [if_pos k5] at h ⊢; rw [holds, if_neg h]
  rw [if_neg k5] at h ⊢
  by_cases k6 : n = 6
  · rw [if_pos k6] at h ⊢; rw [passed, if_neg h]
  rw [if_neg k6] at h ⊢
  by_cases k7 : n = 7
  · rw [if_pos k7, moved]; rw [if_pos k7] at h; rw [if_neg h]
  · rw [if_neg k7, passed]; rw [if_neg k7] at h; rw [if_neg h]
/-- A deed that is done had a valid amount. -/
theorem deed_good {T : Grs} {n : Int} {k v : V4} (h : deedErr T n k v = 0) : goodV v = true := by
  unfold deedErr at h
  split at h; exact (giveErr_zero h).1
  split at h; exact (takeErr_zero h).1
  split at h; exact (takeErr_zero h).1
  split at h; exact (backErr_zero h).1
  split at h; exact (takeErr_zero h).1
  split at h; exact (backErr_zero h).1
  split at h; exact (takeErr_zero h).1
  exact (backErr_zero h).1

/-- The accounts of a list of keys, of windows below w, are emptied. -/
def expT (w : Int) : Grs → List V4 → Grs
  | T, [] => T
  | T, k :: L => expT w (if k.d < w then strike T k else T) L
theorem Solid.strike {T : Grs} (h : Solid T) (k : V4) : Solid (strike T k) where
  apart := h.apart.strike k
  each := fun y x hy => by
    rw [look_strike] at hy
    by_cases e : y = k
    · rw [if_pos e] at hy; cases hy
    · rw [if_neg e] at hy; exact h.each y x hy
  most := fun p r => by
    unfold iss
    rw [totK_strike _ h.apart, atK_part]
    have h1 := h.most p r
    have h2 := (acc_pos h k).all r
    unfold iss at h1
    split <;> omega
theorem Solid.expT {w : Int} {T : Grs} (h : Solid T) (L : List V4) : Solid (expT w T L) := by
  induction L generalizing T with
  | nil => exact h
  | cons k L ih =>
    unfold Proofs.YtpgioihmaodlcaaDoor.expT
    split
    · exact ih (h.strike k)
    · exact ih h
theorem look_expT (w : Int) (T : Grs) (L : List V4) (y : V4) : look (expT w T L) y = if y ∈ L ∧ y.d < w then none else look T y := by
  induction L generalizing T with
  | nil => simp [expT]
  | cons k L ih =>
    unfold expT
    rw [ih]
    by_cases c : y ∈ L ∧ y.d < w
    · rw [if_pos c, if_pos ⟨List.mem_cons_of_mem _ c.1, c.2⟩]
    · rw [if_neg c]
      by_cases kd : k.d < w
      · rw [if_pos kd, look_strike]
        by_cases e : y = k
        · rw [if_pos e, if_pos ⟨by rw [e]; exact List.mem_cons_self .., by rw [e]; exact kd⟩]
        · rw [if_neg e, if_neg (fun h => by rcases List.mem_cons.1 h.1 with i | i; exact e i; exact c ⟨i, h.2⟩)]
      · rw [if_neg kd, if_neg (fun h => by rcases List.mem_cons.1 h.1 with i | i; rw [i] at h; exact kd h.2; exact c ⟨i, h.2⟩)]
theorem expT_len (w : Int) (T : Grs) (L : List V4) : (expT w T L).length ≤ T.length := by
  induction L generalizing T with
  | nil => exact Nat.le_refl _
  | cons k L ih =>
    unfold expT
    refine Nat.le_trans (ih _) ?_
    split
    · exact strike_le T k
    · exact Nat.le_refl _
theorem totK_zero {κ α : Type} {f : κ → α → Int} {T : List (κ × α)} (h : ∀ q ∈ T, f q.1 q.2 = 0) : totK f T = 0 := by
  induction T with
  | nil => rfl
  | cons q T ih =>
    obtain ⟨a, v⟩ := q
    have h1 := h (a, v) (List.mem_cons_self ..)
    simp only at h1
    rw [totK_cons, h1, ih fun q hq => h q (List.mem_cons_of_mem _ hq)]; rfl
theorem iss_expT {w : Int} {T : Grs} (h : Solid T) {L : List V4} (hL : ∀ k, (look T k).isSome = true → k ∈ L) (p : V4) (r : Nat) : iss (expT w T L) p r = if p.d < w then 0 else iss T p r := by
  by_cases pd : p.d < w
  · rw [if_pos pd]
    refine totK_zero fun q hq => ?_
    have hl := mem_look (h.expT L).apart hq
    rw [look_expT] at hl
    have hd : ¬ q.1.d < w := fun hd => by
      by_cases c : q.1 ∈ L ∧ q.1.d < w
      · rw [if_pos c] at hl; cases hl
      · rw [if_neg c] at hl; exact c ⟨hL q.1 (by rw [hl]; rfl), hd⟩
    unfold part1
    rw [if_neg fun e => by have := (sameP_iff.1 e).2.2; omega]
  · rw [if_neg pd]
    clear hL
    induction L generalizing T with
    | nil => rfl
    | cons k L ih =>
      unfold expT
      split
      · rename_i kd
        rw [ih (h.strike k)]
        unfold iss
        rw [totK_strike _ h.apart, atK_part, if_neg fun e => by have := (sameP_iff.1 e).2.2; omega]
        omega
      · exact ih h
end Go.Proofs.YtpgioihmaodlcaaDoor
