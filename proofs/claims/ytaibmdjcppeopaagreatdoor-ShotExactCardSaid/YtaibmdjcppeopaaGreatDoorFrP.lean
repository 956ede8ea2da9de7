/- Plain arithmetic of frames: how the payload is unpacked, as the program does it; that this is how a row of blocks reads. No program, no conditions. -/
import Derived.Test.YtaibmdjcppeopaaGreatDoorFrT
namespace Go.Proofs.YtaibmdjcppeopaaGreatDoor
open Go

/-- The text of a payload, if it is the payload of a text. -/
def unpackF (P : List UInt8) : Option (List UInt8) :=
  if 6000 < valB (P.take 4) ∨ 56 * nblk (valB (P.take 4)) ≠ P.length then none
  else if crcN ((P.drop 8).take (valB (P.take 4))) = valB ((P.drop 4).take 4) ∧ P.drop (8 + valB (P.take 4)) = List.replicate (P.length - (8 + valB (P.take 4))) 0 then some ((P.drop 8).take (valB (P.take 4)))
  else none

theorem le_val_of {l : List UInt8} (k : Nat) (h : l.length = k) : leB k (valB l) = l := by subst h; exact le_val l
theorem unpackF_some {P d : List UInt8} (h : unpackF P = some d) : payF d = P ∧ d.length ≤ 6000 := by
  unfold unpackF at h
  split at h
  · cases h
  · rename_i h1
    split at h
    · rename_i h2
      cases h
      obtain ⟨k, hk⟩ : ∃ k, valB (P.take 4) = k := ⟨_, rfl⟩
      rw [hk] at h1 h2 ⊢
      have hn : nblk k = (k + 8 + 55) / 56 := rfl
      have hP : k + 8 ≤ P.length := by omega
      have hl : ((P.drop 8).take k).length = k := by simp; omega
      refine ⟨?_, by omega⟩
      unfold payF
      rw [hl, h2.1]
      have e1 : leB 4 k = P.take 4 := by rw [← hk]; exact le_val_of _ (by simp; omega)
      have e2 : leB 4 (valB ((P.drop 4).take 4)) = (P.drop 4).take 4 := le_val_of _ (by simp; omega)
      rw [e1, e2, show 56 * nblk k - (k + 8) = P.length - (8 + k) by omega, ← h2.2]
      rw [List.append_assoc, List.append_assoc, show P.drop (8 + k) = (P.drop 8).drop k by rw [List.drop_drop], List.take_append_drop, show P.drop 8 = (P.drop 4).drop 4 by rw [List.drop_drop], List.take_append_drop, List.take_append_drop]
    · cases h
theorem pay_crc (d : List UInt8) : valB (((payF d).drop 4).take 4) = crcN d := by
  unfold payF
  rw [List.append_assoc, List.append_assoc, drop_appF (leB_len 4 _), take_app (leB_len 4 _), val_le_of (crcN_lt d)]
theorem pay_pad (d : List UInt8) : (payF d).drop (8 + d.length) = List.replicate ((payF d).length - (8 + d.length)) 0 := by
  rw [payF_len]
  unfold payF
  rw [drop_appF (by rw [List.length_append, List.length_append, leB_len, leB_len])]
  congr 1; omega
theorem unpackF_pay {d : List UInt8} (h : d.length ≤ 6000) : unpackF (payF d) = some d := by
  unfold unpackF
  rw [pay_head d h, if_neg (by rw [payF_len]; omega), pay_body d, pay_crc d, if_pos ⟨rfl, pay_pad d⟩]
theorem unpackF_none {P : List UInt8} (h : unpackF P = none) (d : List UInt8) (hd : d.length ≤ 6000) : payF d ≠ P := fun e => by
  rw [← e, unpackF_pay hd] at h; cases h

/-- What a row of blocks reads as, as the program asks it. -/
def readP (l : List (List UInt8)) : Except Nat (List UInt8 × Nat × Nat) :=
  match l[0]? with
  | none => .error 0
  | some b =>
    if b.length ≠ 64 then .error 0
    else if seqOf b < 1 ∨ 2147483647 < seqOf b ∨ idxOf b ≠ 0 ∨ cntOf b < 1 ∨ 108 < cntOf b then .error 0
    else if badFrom l (seqOf b) (cntOf b) (cntOf b) 0 < cntOf b then .error (badFrom l (seqOf b) (cntOf b) (cntOf b) 0)
    else match unpackF (joinF l (cntOf b)) with
      | none => .error 0
      | some d => .ok (d, seqOf b, cntOf b)

theorem bad_le {l : List (List UInt8)} {seq n : Nat} : ∀ m i, badFrom l seq n m i ≤ i + m
  | 0, i => by rw [badFrom]; omega
  | m + 1, i => by
    rw [badFrom]
    split
    · have := bad_le (l := l) (seq := seq) (n := n) m (i + 1); omega
    · omega
theorem bad_good {l : List (List UInt8)} {seq n : Nat} : ∀ m i, i + m ≤ badFrom l seq n m i → ∀ j, i ≤ j → j < i + m → goodAt l seq n j = true
  | 0, i, _, j, h1, h2 => by omega
  | m + 1, i, h, j, h1, h2 => by
    rw [badFrom] at h
    split at h
    · rename_i hg
      by_cases e : j = i
      · subst e; exact hg
      · exact bad_good m (i + 1) (by omega) j (by omega) (by omega)
    · omega
theorem goodAt_iff {l : List (List UInt8)} {seq n i : Nat} : goodAt l seq n i = true ↔ ∃ b, l[i]? = some b ∧ b.length = 64 ∧ b.drop 56 = trailF seq i n := by
  unfold goodAt
  cases h : l[i]? with
  | none => simp
  | some b => simp
/-- A row whose blocks are good is its payload's. -/
theorem good_row {l : List (List UInt8)} {seq n : Nat} (hg : ∀ j, j < n → goodAt l seq n j = true) : ∀ j, j ≤ n → joinF l j = (joinF l n).take (56 * j) ∧ (joinF l j).length = 56 * j := by
  have len : ∀ j, j ≤ n → (joinF l j).length = 56 * j := by
    intro j
    induction j with
    | zero => intro _; rfl
    | succ j ih =>
      intro hj
      obtain ⟨b, hb, hl, _⟩ := goodAt_iff.1 (hg j (by omega))
      have e : joinF l (j + 1) = joinF l j ++ b.take 56 := by
        unfold joinF
        rw [List.take_add_one, hb]; simp
      rw [e, List.length_append, ih (by omega), List.length_take, hl]
      omega
  intro j hj
  refine ⟨?_, len j hj⟩
  have e : joinF l n = joinF l j ++ (((l.take n).drop j).map (·.take 56)).flatten := by
    unfold joinF
    rw [← List.flatten_append, ← List.map_append]
    congr 2
    rw [show l.take j = (l.take n).take j by rw [List.take_take, Nat.min_eq_left hj], List.take_append_drop]
  rw [e, take_app (len j hj)]
theorem join_succ {l : List (List UInt8)} {j : Nat} {b : List UInt8} (hb : l[j]? = some b) : joinF l (j + 1) = joinF l j ++ b.take 56 := by
  unfold joinF
  rw [List.take_add_one, hb]; simp
theorem good_blocks {l : List (List UInt8)} {seq n : Nat} (hg : ∀ j, j < n → goodAt l seq n j = true) (j : Nat) (hj : j < n) : l[j]? = some (blkF seq n (joinF l n) j) := by
  obtain ⟨b, hb, hl, hd⟩ := goodAt_iff.1 (hg j hj)
  have h1 := good_row hg j (by omega)
  have h2 := good_row hg (j + 1) (by omega)
  rw [hb]
  congr 1
  unfold blkF
  have e : ((joinF l n).drop (56 * j)).take 56 = b.take 56 := by
    have := join_succ hb
    rw [h2.1, h1.1] at this
    rw [show 56 * (j + 1) = 56 * j + 56 by omega, List.take_add] at this
    exact List.append_cancel_left this
  rw [e, ← hd, List.take_append_drop]
theorem readP_eq (l : List (List UInt8)) : readP l = readF l := by
  unfold readP readF
  cases h0 : l[0]? with
  | none => rfl
  | some b =>
    simp only []
    by_cases h1 : b.length ≠ 64
    · rw [if_pos h1, if_pos h1]
    rw [if_neg h1, if_neg h1]
    by_cases h2 : seqOf b < 1 ∨ 2147483647 < seqOf b ∨ idxOf b ≠ 0 ∨ cntOf b < 1 ∨ 108 < cntOf b
    · rw [if_pos h2, if_pos h2]
    rw [if_neg h2, if_neg h2]
    by_cases h3 : badFrom l (seqOf b) (cntOf b) (cntOf b) 0 < cntOf b
    · rw [if_pos h3, if_pos h3]
    rw [if_neg h3, if_neg h3]
    have hg' : ∀ j, j < cntOf b → goodAt l (seqOf b) (cntOf b) j = true := fun j hj => bad_good (cntOf b) 0 (by omega) j (Nat.zero_le _) (by omega)
    obtain ⟨n, hn⟩ : ∃ n, cntOf b = n := ⟨_, rfl⟩
    obtain ⟨q, hq⟩ : ∃ q, seqOf b = q := ⟨_, rfl⟩
    rw [hn, hq] at hg' h2 ⊢
    have hlen := (good_row hg' n (Nat.le_refl _)).2
    have hll : n ≤ l.length := by
      obtain ⟨c, hc, _⟩ := goodAt_iff.1 (hg' (n - 1) (by omega))
      have := (List.getElem?_eq_some_iff.1 hc).1; omega
    have hrow : ∀ d, payF d = joinF l n → framesF q d = l.take n := by
      intro d e
      have hd : nblk d.length = n := by
        have := payF_len d
        rw [e, hlen] at this; omega
      apply List.ext_getElem?
      intro i
      by_cases hi : i < n
      · rw [framesF_get q d i (by omega), List.getElem?_take_of_lt hi, good_blocks hg' i hi, hd, e]
      · rw [List.getElem?_eq_none (by rw [framesF_len]; omega), List.getElem?_eq_none (by simp; omega)]
    cases hu : unpackF (joinF l n) with
    | some d =>
      obtain ⟨e, hd⟩ := unpackF_some hu
      simp only []
      have hk : valB ((joinF l n).take 4) = d.length := by rw [← e, pay_head d hd]
      have hb : ((joinF l n).drop 8).take d.length = d := by rw [← e, pay_body d]
      rw [hk, if_neg (by rw [← e, payF_len]; unfold nblk; omega), hb, if_pos (hrow d e)]
    | none =>
      simp only []
      split
      · rfl
      · rename_i h6
        rw [if_neg]
        intro e
        have hjd : payF (((joinF l n).drop 8).take (valB ((joinF l n).take 4))) = joinF l n := by
          obtain ⟨d, hd⟩ : ∃ d, ((joinF l n).drop 8).take (valB ((joinF l n).take 4)) = d := ⟨_, rfl⟩
          rw [hd] at e ⊢
          have hj := join_frames q d []
          rw [List.append_nil, e] at hj
          have hn2 : nblk d.length = n := by
            have := congrArg List.length e
            rw [framesF_len, List.length_take, Nat.min_eq_left hll] at this; exact this
          rw [hn2] at hj
          rw [← hj]
          unfold joinF
          rw [List.take_take, Nat.min_self]
        exact unpackF_none hu _ (by simp; omega) hjd
end Go.Proofs.YtaibmdjcppeopaaGreatDoor
