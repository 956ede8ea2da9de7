/- Matching in plain words (stage 14): each fill takes the best that stands, sums of lots, no two orders meet. No conditions. -/
import Derived.Test.YtogmlbjbjgkdcaaDoorDlP
namespace Go.Proofs.YtogmlbjbjgkdcaaDoor

def sumF (L : List Fl) : Int := (L.map (·.lots)).sum
def sumO (L : List Od) : Int := (L.map (·.lots)).sum
theorem sumF_cons (f : Fl) (L : List Fl) : sumF (f :: L) = f.lots + sumF L := by unfold sumF; rw [List.map_cons, List.sum_cons]
theorem sumO_cons (x : Od) (L : List Od) : sumO (x :: L) = x.lots + sumO L := by unfold sumO; rw [List.map_cons, List.sum_cons]
theorem fill_lot (o x : Od) (n : Int) : (fillO o x n).lots = n := by unfold fillO; split <;> rfl
theorem fill_price (o x : Od) (n : Int) : (fillO o x n).price = x.price := by unfold fillO; split <;> rfl
/-- The j-th fill is of the j-th order that stands; all but the last take it whole. -/
theorem take_at (o : Od) : ∀ (S : List Od) (k j : Nat) (f : Fl), (∀ x ∈ S, 1 ≤ x.lots) → (takeL o S k)[j]? = some f →
    ∃ x, S[j]? = some x ∧ meetO o x = true ∧ f = fillO o x f.lots ∧ 1 ≤ f.lots ∧ f.lots ≤ x.lots ∧ (j + 1 < (takeL o S k).length → f.lots = x.lots)
  | [], _, _, _, _, h => by simp [takeL] at h
  | x :: S, k, j, f, hS, h => by
    rw [takeL] at h ⊢
    by_cases hk : k = 0
    · rw [if_pos hk] at h; simp at h
    · rw [if_neg hk] at h ⊢
      by_cases hm : meetO o x = true
      · rw [if_pos hm] at h ⊢
        have hx := hS x (List.mem_cons_self ..)
        cases j with
        | zero =>
          simp only [List.getElem?_cons_zero, Option.some.injEq] at h
          subst h
          refine ⟨x, rfl, hm, by rw [fill_lot], by rw [fill_lot]; omega, by rw [fill_lot]; omega, fun hl => ?_⟩
          rw [fill_lot]
          by_cases hle : x.lots.toNat ≤ k
          · omega
          · rw [show k - min k x.lots.toNat = 0 by omega, take_zero] at hl
            simp at hl
        | succ j =>
          simp only [List.getElem?_cons_succ] at h
          obtain ⟨y, h1, h2, h3, h4, h5, h6⟩ := take_at o S _ j f (fun z hz => hS z (List.mem_cons_of_mem _ hz)) h
          exact ⟨y, by simpa using h1, h2, h3, h4, h5, fun hl => h6 (by simpa using hl)⟩
      · rw [if_neg hm] at h; simp at h
/-- What goes out and what is left. -/
theorem take_sum (o : Od) : ∀ (S : List Od) (k : Nat), (∀ x ∈ S, 1 ≤ x.lots) → sumF (takeL o S k) + (leftL o S k : Int) = k ∧ sumO (restL o S k) + sumF (takeL o S k) = sumO S
  | [], k, _ => by simp [takeL, leftL, restL, sumF]
  | x :: S, k, h => by
    have hx := h x (List.mem_cons_self ..)
    have hS : ∀ z ∈ S, 1 ≤ z.lots := fun z hz => h z (List.mem_cons_of_mem _ hz)
    rw [takeL, leftL, restL]
    by_cases hk : k = 0
    · rw [if_pos hk, if_pos hk, if_pos hk]
      exact ⟨by simp [sumF, hk], by simp [sumF]⟩
    · rw [if_neg hk, if_neg hk, if_neg hk]
      by_cases hm : meetO o x = true
      · rw [if_pos hm, if_pos hm, if_pos hm, sumF_cons, fill_lot, sumO_cons]
        by_cases hlt : k < x.lots.toNat
        · rw [if_pos hlt, show k - min k x.lots.toNat = 0 by omega, left_zero, take_zero, sumO_cons, show min k x.lots.toNat = k by omega]
          have : sumF [] = 0 := rfl
          simp only
          exact ⟨by omega, by omega⟩
        · rw [if_neg hlt, show min k x.lots.toNat = x.lots.toNat by omega]
          obtain ⟨r1, r2⟩ := take_sum o S (k - x.lots.toNat) hS
          exact ⟨by omega, by omega⟩
      · rw [if_neg hm, if_neg hm, if_neg hm]
        exact ⟨by simp [sumF], by simp [sumF]⟩
/-- What is left of the list are orders of it, some with fewer lots. -/
theorem rest_mem (o : Od) : ∀ (S : List Od) (k : Nat) (z : Od), z ∈ restL o S k → ∃ y ∈ S, y.price = z.price ∧ y.sell = z.sell
  | [], _, _, h => by simp [restL] at h
  | x :: S, k, z, h => by
    rw [restL] at h
    split at h
    · exact ⟨z, h, rfl, rfl⟩
    · split at h
      · split at h
        · rcases List.mem_cons.1 h with rfl | h
          · exact ⟨x, List.mem_cons_self .., rfl, rfl⟩
          · exact ⟨z, List.mem_cons_of_mem _ h, rfl, rfl⟩
        · obtain ⟨y, h1, h2⟩ := rest_mem o S _ z h
          exact ⟨y, List.mem_cons_of_mem _ h1, h2⟩
      · exact ⟨z, h, rfl, rfl⟩
/-- Lots are left over only where the next one that stands isn't met. -/
theorem left_meet (o : Od) : ∀ (S : List Od) (k : Nat), leftL o S k ≠ 0 → ∀ z T, restL o S k = z :: T → meetO o z = false ∧ z ∈ S ∧ T.Sublist S
  | [], _, _, z, T, h => by simp [restL] at h
  | x :: S, k, hl, z, T, h => by
    rw [leftL] at hl
    rw [restL] at h
    by_cases hk : k = 0
    · rw [if_pos hk] at hl; exact absurd rfl hl
    · rw [if_neg hk] at hl h
      by_cases hm : meetO o x = true
      · rw [if_pos hm] at hl h
        by_cases hlt : k < x.lots.toNat
        · rw [show k - min k x.lots.toNat = 0 by omega, left_zero] at hl
          exact absurd rfl hl
        · rw [if_neg hlt] at h
          rw [show min k x.lots.toNat = x.lots.toNat by omega] at hl
          obtain ⟨r1, r2, r3⟩ := left_meet o S _ hl z T h
          exact ⟨r1, List.mem_cons_of_mem _ r2, r3.trans (List.sublist_cons_self ..)⟩
      · rw [if_neg hm] at h
        obtain ⟨rfl, rfl⟩ := List.cons.inj h
        exact ⟨by simpa using hm, List.mem_cons_self .., List.sublist_cons_self ..⟩
/-- No two orders of a book meet. -/
def NoMeet (L : List Od) : Prop := ∀ x ∈ L, ∀ y ∈ L, x.sell = true → y.sell = false → y.price < x.price
theorem mem_side {b : RB} (h : GB b) (sell : Bool) {z : Od} : z ∈ listR13 b.L sell ↔ z ∈ b.L ∧ z.sell = sell := by
  rw [(listR13_is h.seq sell).2.mem_iff, List.mem_filter]; simp
/-- Whatever stands behind one that isn't met isn't met. -/
theorem meet_behind {o z y : Od} {T : List Od} (hs : SortedO (z :: T)) (hz : z.sell = !o.sell) (hm : meetO o z = false) (hy : y ∈ T) : meetO o y = false := by
  have h := (List.pairwise_cons.1 hs).1 y hy
  unfold aheadO at h
  unfold meetO at *
  cases ho : o.sell <;> rw [ho] at hz hm <;> simp only [hz, Bool.not_true, Bool.not_false] at h <;> simp at hm ⊢ <;> (split at h <;> simp at h <;> omega)
end Go.Proofs.YtogmlbjbjgkdcaaDoor
