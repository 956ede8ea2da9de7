/- Plain arithmetic of the encoding of integers: folding, digits of seven bits, reading them back; each inverts the other. -/
import Derived.Laws.BytesArg
namespace Go.Proofs.YtcahidhcnhgbeaaDoor
open Go

def I64 (n : Int) : Prop := -9223372036854775808 ≤ n ∧ n ≤ 9223372036854775807
def foldI (n : Int) : Int := if n < 0 then -2 * n - 1 else 2 * n
def unfoldI (u : Int) : Int := if u % 2 = 1 then -(u / 2) - 1 else u / 2

theorem foldI_bd (n : Int) (h : I64 n) : 0 ≤ foldI n ∧ foldI n < 18446744073709551616 := by
  unfold I64 at h; unfold foldI; split <;> omega
theorem unfoldI_bd (u : Int) (h0 : 0 ≤ u) (h1 : u < 18446744073709551616) : I64 (unfoldI u) := by
  unfold I64 unfoldI; split <;> omega
theorem unfold_fold (n : Int) : unfoldI (foldI n) = n := by
  unfold unfoldI foldI
  by_cases h : n < 0
  · rw [if_pos h, if_pos (by omega)]; omega
  · rw [if_neg h, if_neg (by omega)]; omega
theorem fold_unfold (u : Int) (h : 0 ≤ u) : foldI (unfoldI u) = u := by
  unfold unfoldI foldI
  by_cases e : u % 2 = 1
  · rw [if_pos e, if_pos (by omega)]; omega
  · rw [if_neg e, if_neg (by omega)]; omega

/-- The digits of a number, the least first. -/
def encU (u : Nat) : List UInt8 := if u < 128 then [UInt8.ofNat u] else UInt8.ofNat (u % 128 + 128) :: encU (u / 128)
termination_by u
decreasing_by omega

theorem encU_small {u : Nat} (h : u < 128) : encU u = [UInt8.ofNat u] := by rw [encU, if_pos h]
theorem encU_great {u : Nat} (h : ¬ u < 128) : encU u = UInt8.ofNat (u % 128 + 128) :: encU (u / 128) := by rw [encU, if_neg h]
theorem encU_pos (u : Nat) : 0 < (encU u).length := by
  by_cases h : u < 128
  · rw [encU_small h]; simp
  · rw [encU_great h]; simp

theorem byte_toNat (n : Nat) (h : n < 256) : (UInt8.ofNat n).toNat = n := by simp; omega

theorem encU_len : ∀ (m u : Nat), u < 128 ^ m → 0 < m → (encU u).length ≤ m
  | 0, u, _, h => by omega
  | m + 1, u, hu, _ => by
    by_cases h : u < 128
    · rw [encU_small h]; simp
    · rw [encU_great h]
      have hm : 0 < m := by
        rcases Nat.eq_zero_or_pos m with rfl | h'
        · simp at hu; omega
        · exact h'
      have := encU_len m (u / 128) (by rw [Nat.pow_succ] at hu; omega) hm
      simpa using this

/-- The number that the digits begin with, k of them having been read; and how many there are. -/
def decL : Nat → List UInt8 → Option (Nat × Nat)
  | _, [] => none
  | k, b :: r =>
    if 9 ≤ k ∧ 1 < b.toNat then none
    else if 128 ≤ b.toNat then (decL (k + 1) r).map fun p => (b.toNat % 128 + 128 * p.1, p.2 + 1)
    else if b.toNat = 0 ∧ 0 < k then none
    else some (b.toNat, 1)

theorem decL_bd : ∀ (l : List UInt8) (k v n : Nat), k ≤ 9 → decL k l = some (v, n) → v * 128 ^ k < 18446744073709551616 ∧ n ≤ l.length ∧ 1 ≤ n ∧ n + k ≤ 10 ∧ (0 < k → 0 < v)
  | [], k, v, n, _, h => by simp [decL] at h
  | b :: r, k, v, n, hk, h => by
    unfold decL at h
    have hb := b.toNat_lt
    split at h
    · cases h
    · rename_i h9
      split at h
      · rename_i h128
        have hk9 : k + 1 ≤ 9 := by omega
        cases hd : decL (k + 1) r with
        | none => rw [hd] at h; cases h
        | some p =>
          obtain ⟨v', n'⟩ := p
          rw [hd] at h
          simp only [Option.map_some, Option.some.injEq, Prod.mk.injEq] at h
          obtain ⟨rfl, rfl⟩ := h
          obtain ⟨h1, h2, h3, h4, h5⟩ := decL_bd r (k + 1) v' n' hk9 hd
          have h5' := h5 (by omega)
          refine ⟨?_, by simp; omega, by omega, by omega, fun _ => by omega⟩
          rw [Nat.pow_succ] at h1
          have hdvd : 128 ^ (k + 1) ∣ 18446744073709551616 := by
            have : (18446744073709551616 : Nat) = 128 ^ 9 * 2 := by decide
            rw [this]
            exact Nat.dvd_trans (Nat.pow_dvd_pow 128 hk9) (Nat.dvd_mul_right _ _)
          rw [Nat.pow_succ] at hdvd
          obtain ⟨q, hq⟩ := hdvd
          have hpos : 0 < 128 ^ k := Nat.pos_of_ne_zero (by simp)
          -- v' < q
          have hlt : v' < q := by
            rw [hq] at h1
            have : v' * (128 ^ k * 128) < q * (128 ^ k * 128) := by rw [Nat.mul_comm q]; exact h1
            exact Nat.lt_of_mul_lt_mul_right this
          have hle : (b.toNat % 128 + 128 * v') < 128 * q := by omega
          calc (b.toNat % 128 + 128 * v') * 128 ^ k < 128 * q * 128 ^ k := Nat.mul_lt_mul_of_pos_right hle hpos
            _ = 18446744073709551616 := by rw [hq, Nat.mul_comm 128 q, Nat.mul_assoc q, Nat.mul_comm 128, Nat.mul_comm q]
      · split at h
        · cases h
        · rename_i h0
          simp only [Option.some.injEq, Prod.mk.injEq] at h
          obtain ⟨rfl, rfl⟩ := h
          refine ⟨?_, by simp, by omega, by omega, fun _ => by omega⟩
          have hp : 128 ^ k ≤ 128 ^ 9 := Nat.pow_le_pow_right (by decide) hk
          have e9 : (128 : Nat) ^ 9 = 9223372036854775808 := by decide
          rcases Nat.lt_or_ge k 9 with h | h
          · have hp8 : 128 ^ k ≤ 128 ^ 8 := Nat.pow_le_pow_right (by decide) (by omega)
            have e8 : (128 : Nat) ^ 8 = 72057594037927936 := by decide
            have : b.toNat * 128 ^ k ≤ 127 * 128 ^ 8 := Nat.mul_le_mul (by omega) hp8
            omega
          · have : b.toNat * 128 ^ k ≤ 1 * 128 ^ 9 := Nat.mul_le_mul (by omega) hp
            omega

theorem dec_enc : ∀ (u k : Nat) (r : List UInt8), k ≤ 9 → u * 128 ^ k < 18446744073709551616 → (k = 0 ∨ 0 < u) → decL k (encU u ++ r) = some (u, (encU u).length) := by
  intro u
  induction u using Nat.strongRecOn with
  | ind u ih =>
    intro k r hk hu h0
    have u9 : 9 ≤ k → u < 2 := fun h => by
      obtain rfl : k = 9 := by omega
      have : (128 : Nat) ^ 9 = 9223372036854775808 := by decide
      omega
    by_cases h : u < 128
    · rw [encU_small h]
      show decL k (UInt8.ofNat u :: r) = _
      unfold decL
      rw [byte_toNat u (by omega), if_neg (by omega), if_neg (by omega), if_neg (by omega)]
      rfl
    · have hk9 : k + 1 ≤ 9 := by
        rcases Nat.lt_or_ge k 9 with h' | h'
        · omega
        · have := u9 h'; omega
      rw [encU_great h]
      show decL k (UInt8.ofNat (u % 128 + 128) :: (encU (u / 128) ++ r)) = _
      unfold decL
      rw [byte_toNat _ (by omega), if_neg (by omega), if_pos (by omega), ih (u / 128) (by omega) (k + 1) r hk9 ?_ (.inr (by omega))]
      · simp only [Option.map_some, Option.some.injEq, Prod.mk.injEq]
        exact ⟨by omega, by simp⟩
      · have : u / 128 * 128 ^ (k + 1) ≤ u * 128 ^ k := by
          rw [Nat.pow_succ, Nat.mul_comm (128 ^ k), ← Nat.mul_assoc]
          exact Nat.mul_le_mul_right _ (Nat.div_mul_le_self u 128)
        omega

theorem enc_dec : ∀ (l : List UInt8) (k v n : Nat), decL k l = some (v, n) → (k = 0 ∨ 0 < v) ∧ encU v = l.take n
  | [], k, v, n, h => by simp [decL] at h
  | b :: r, k, v, n, h => by
    unfold decL at h
    have hb := b.toNat_lt
    split at h
    · cases h
    · split at h
      · rename_i h128
        cases hd : decL (k + 1) r with
        | none => rw [hd] at h; cases h
        | some p =>
          obtain ⟨v', n'⟩ := p
          rw [hd] at h
          simp only [Option.map_some, Option.some.injEq, Prod.mk.injEq] at h
          obtain ⟨rfl, rfl⟩ := h
          obtain ⟨h1, h2⟩ := enc_dec r (k + 1) v' n' hd
          have hv : 0 < v' := by omega
          refine ⟨.inr (by omega), ?_⟩
          rw [encU_great (by omega), List.take_succ_cons, ← h2]
          congr 1
          · apply UInt8.toNat_inj.1; rw [byte_toNat _ (by omega)]; omega
          · congr 1; omega
      · split at h
        · cases h
        · rename_i h128 h0
          simp only [Option.some.injEq, Prod.mk.injEq] at h
          obtain ⟨rfl, rfl⟩ := h
          refine ⟨by omega, ?_⟩
          rw [encU_small (by omega)]
          simp

/-- The number that a string begins with, and how many bytes it takes; none of both if there is none. -/
def fin (k acc : Nat) : Option (Nat × Nat) → Nat × Nat
  | none => (0, 0)
  | some p => (acc + 128 ^ k * p.1, k + p.2)
def parseR (l : List UInt8) : Nat × Nat := fin 0 0 (decL 0 l)

theorem parse_none (l : List UInt8) (h : decL 0 l = none) : parseR l = (0, 0) := by unfold parseR; rw [h]; rfl
theorem parse_some (l : List UInt8) (v n : Nat) (h : decL 0 l = some (v, n)) : parseR l = (v, n) := by unfold parseR; rw [h]; simp [fin]

theorem fin_end {k acc : Nat} : fin k acc (decL k []) = (0, 0) := by rw [decL]; rfl
theorem fin_nine {k acc : Nat} {b : UInt8} {r : List UInt8} (h : 9 ≤ k) (hb : 1 < b.toNat) : fin k acc (decL k (b :: r)) = (0, 0) := by
  unfold decL; rw [if_pos ⟨h, hb⟩]; rfl
theorem decL_more {k : Nat} {b : UInt8} {r : List UInt8} (h : ¬ (9 ≤ k ∧ 1 < b.toNat)) (hb : 128 ≤ b.toNat) : decL k (b :: r) = (decL (k + 1) r).map fun p => (b.toNat % 128 + 128 * p.1, p.2 + 1) := by
  rw [decL, if_neg h, if_pos hb]
theorem fin_more {k acc : Nat} {b : UInt8} {r : List UInt8} (h : ¬ (9 ≤ k ∧ 1 < b.toNat)) (hb : 128 ≤ b.toNat) : fin k acc (decL k (b :: r)) = fin (k + 1) (acc + b.toNat % 128 * 128 ^ k) (decL (k + 1) r) := by
  rw [decL_more h hb]
  generalize decL (k + 1) r = o
  cases o with
  | none => rfl
  | some p =>
    simp only [Option.map_some, fin, Prod.mk.injEq]
    refine ⟨?_, by omega⟩
    rw [Nat.pow_succ, Nat.mul_add, Nat.mul_comm (128 ^ k) (b.toNat % 128), Nat.mul_assoc (128 ^ k) 128, Nat.add_assoc]
theorem fin_zero {k acc : Nat} {b : UInt8} {r : List UInt8} (h : ¬ (9 ≤ k ∧ 1 < b.toNat)) (hb : ¬ 128 ≤ b.toNat) (h0 : b.toNat = 0) (hk : 0 < k) : fin k acc (decL k (b :: r)) = (0, 0) := by
  unfold decL; rw [if_neg h, if_neg hb, if_pos ⟨h0, hk⟩]; rfl
theorem fin_last {k acc : Nat} {b : UInt8} {r : List UInt8} (h : ¬ (9 ≤ k ∧ 1 < b.toNat)) (hb : ¬ 128 ≤ b.toNat) (h0 : ¬ (b.toNat = 0 ∧ 0 < k)) : fin k acc (decL k (b :: r)) = (acc + b.toNat % 128 * 128 ^ k, k + 1) := by
  unfold decL; rw [if_neg h, if_neg hb, if_neg h0]
  simp only [fin, Prod.mk.injEq]
  refine ⟨?_, trivial⟩
  rw [Nat.mod_eq_of_lt (by omega), Nat.mul_comm]

theorem parse_bd (l : List UInt8) : (parseR l).1 < 18446744073709551616 ∧ (parseR l).2 ≤ l.length ∧ (parseR l).2 ≤ 10 := by
  cases h : decL 0 l with
  | none => rw [parse_none l h]; simp
  | some p =>
    obtain ⟨v, n⟩ := p
    obtain ⟨h1, h2, h3, h4, _⟩ := decL_bd l 0 v n (by omega) h
    rw [parse_some l v n h]
    simp only [Nat.pow_zero, Nat.mul_one] at h1
    exact ⟨h1, h2, by omega⟩

theorem drop_cons (s : List UInt8) (k : Nat) (h : k < s.length) : s.drop k = s[k] :: s.drop (k + 1) := List.drop_eq_getElem_cons h

/-! The digit laid into its place: what the shift and the or of 64 bits come to. -/
theorem pow7 (k : Nat) : (2 : Nat) ^ (7 * k) = 128 ^ k := by rw [Nat.pow_mul]
theorem digit_fits (k c : Nat) (hk : k ≤ 9) (hc : c < 128) (h9 : 9 ≤ k → c ≤ 1) : c * 128 ^ k < 18446744073709551616 := by
  rcases Nat.lt_or_ge k 9 with h | h
  · have hp8 : 128 ^ k ≤ 128 ^ 8 := Nat.pow_le_pow_right (by decide) (by omega)
    have e8 : (128 : Nat) ^ 8 = 72057594037927936 := by decide
    have : c * 128 ^ k ≤ 127 * 128 ^ 8 := Nat.mul_le_mul (by omega) hp8
    omega
  · have hp : 128 ^ k ≤ 128 ^ 9 := Nat.pow_le_pow_right (by decide) hk
    have e9 : (128 : Nat) ^ 9 = 9223372036854775808 := by decide
    have : c * 128 ^ k ≤ 1 * 128 ^ 9 := Nat.mul_le_mul (h9 h) hp
    omega
theorem or_digit (k acc c : Nat) (h : acc < 128 ^ k) : acc ||| c * 128 ^ k = acc + c * 128 ^ k := by
  rw [← pow7] at h ⊢
  rw [Nat.or_comm, Nat.mul_comm, Nat.two_pow_add_eq_or_of_lt h c |>.symm, Nat.add_comm]
theorem acc_step (k acc c : Nat) (h : acc < 128 ^ k) (hc : c < 128) : acc + c * 128 ^ k < 128 ^ (k + 1) := by
  rw [Nat.pow_succ]
  have : c * 128 ^ k ≤ 127 * 128 ^ k := Nat.mul_le_mul_right _ (by omega)
  omega

/-- The bytes of an integer. -/
def enc (n : Int) : List UInt8 := encU (foldI n).toNat
theorem enc_len (n : Int) (h : I64 n) : (enc n).length ≤ 10 ∧ 0 < (enc n).length := by
  have := foldI_bd n h
  refine ⟨encU_len 10 _ ?_ (by decide), encU_pos _⟩
  have e : (128 : Nat) ^ 10 = 1180591620717411303424 := by decide
  omega

/-- The integer that bytes begin with, and how many they are. -/
def dec (l : List UInt8) : Option (Int × Nat) := (decL 0 l).map fun p => (unfoldI p.1, p.2)
theorem dec_of_enc (n : Int) (r : List UInt8) (h : I64 n) : dec (enc n ++ r) = some (n, (enc n).length) := by
  have hb := foldI_bd n h
  unfold dec enc
  rw [dec_enc _ 0 r (by omega) (by simp; omega) (.inl rfl)]
  simp only [Option.map_some, Option.some.injEq, Prod.mk.injEq, and_true]
  rw [Int.toNat_of_nonneg hb.1, unfold_fold]
theorem enc_of_dec (l : List UInt8) (n : Int) (k : Nat) (h : dec l = some (n, k)) : I64 n ∧ enc n = l.take k ∧ k ≤ l.length ∧ 1 ≤ k ∧ k ≤ 10 := by
  unfold dec at h
  cases hd : decL 0 l with
  | none => rw [hd] at h; cases h
  | some p =>
    obtain ⟨v, m⟩ := p
    rw [hd] at h
    simp only [Option.map_some, Option.some.injEq, Prod.mk.injEq] at h
    obtain ⟨rfl, rfl⟩ := h
    obtain ⟨h1, h2, h3, h4, _⟩ := decL_bd l 0 v m (by omega) hd
    simp only [Nat.pow_zero, Nat.mul_one] at h1
    refine ⟨unfoldI_bd _ (by omega) (by omega), ?_, h2, h3, by omega⟩
    unfold enc
    rw [fold_unfold _ (by omega)]
    simpa using (enc_dec l 0 v m hd).2
theorem dec_parse (l : List UInt8) : dec l = if (parseR l).2 = 0 then none else some (unfoldI (parseR l).1, (parseR l).2) := by
  unfold dec
  cases hd : decL 0 l with
  | none => rw [parse_none l hd]; rfl
  | some p =>
    obtain ⟨v, m⟩ := p
    rw [parse_some l v m hd, if_neg (by have := decL_bd l 0 v m (by omega) hd; omega)]
    rfl
theorem enc_inj {a b : Int} {r s : List UInt8} (ha : I64 a) (hb : I64 b) (h : enc a ++ r = enc b ++ s) : a = b ∧ r = s := by
  have h1 := dec_of_enc a r ha
  have h2 := dec_of_enc b s hb
  rw [h, h2] at h1
  simp only [Option.some.injEq, Prod.mk.injEq] at h1
  obtain ⟨rfl, _⟩ := h1
  exact ⟨rfl, List.append_cancel_left h⟩
end Go.Proofs.YtcahidhcnhgbeaaDoor
