/- Reading frames: what was laid is read as it was; unlike texts or numbers have unlike blocks. No program, no conditions. -/
import Derived.Test.YtaibmdjcppeopaaGreatDoorFrM
namespace Go.Proofs.YtaibmdjcppeopaaGreatDoor
open Go

theorem nblk_bd {m : Nat} (h : m ≤ 6000) : 1 ≤ nblk m ∧ nblk m ≤ 108 := by unfold nblk; omega
theorem chunk56 (P : List UInt8) (i n : Nat) (hP : P.length = 56 * n) (hi : i < n) : ((P.drop (56 * i)).take 56).length = 56 := by simp; omega
theorem blkF_len {seq n i : Nat} {P : List UInt8} (hP : P.length = 56 * n) (hi : i < n) : (blkF seq n P i).length = 64 := by
  unfold blkF; rw [List.length_append, chunk56 P i n hP hi, trailF_len]
theorem blkF_drop {seq n i : Nat} {P : List UInt8} (hP : P.length = 56 * n) (hi : i < n) : (blkF seq n P i).drop 56 = trailF seq i n := by
  unfold blkF; rw [List.drop_append_of_le_length (by rw [chunk56 P i n hP hi]; exact Nat.le_refl _), List.drop_of_length_le (by rw [chunk56 P i n hP hi]; exact Nat.le_refl _), List.nil_append]
theorem blkF_take {seq n i : Nat} {P : List UInt8} (hP : P.length = 56 * n) (hi : i < n) : (blkF seq n P i).take 56 = (P.drop (56 * i)).take 56 := by
  unfold blkF; rw [List.take_append_of_le_length (by rw [chunk56 P i n hP hi]; exact Nat.le_refl _), List.take_of_length_le (by rw [chunk56 P i n hP hi]; exact Nat.le_refl _)]
theorem take_app {A B : List UInt8} {k : Nat} (h : A.length = k) : (A ++ B).take k = A := by subst h; simp
theorem drop_appF {A B : List UInt8} {k : Nat} (h : A.length = k) : (A ++ B).drop k = B := by subst h; simp
theorem trail_seq {b : List UInt8} {seq i n : Nat} (h : b.drop 56 = trailF seq i n) (hs : seq < 256 ^ 4) : seqOf b = seq := by
  unfold seqOf; rw [h]; unfold trailF; rw [List.append_assoc, take_app (leB_len 4 seq), val_le_of hs]
theorem trail_idx {b : List UInt8} {seq i n : Nat} (h : b.drop 56 = trailF seq i n) (hs : i < 256 ^ 2) : idxOf b = i := by
  unfold idxOf
  rw [show b.drop 60 = (b.drop 56).drop 4 by rw [List.drop_drop], h]; unfold trailF
  rw [List.append_assoc, drop_appF (leB_len 4 seq), take_app (leB_len 2 i), val_le_of hs]
theorem trail_cnt {b : List UInt8} {seq i n : Nat} (h : b.drop 56 = trailF seq i n) (hs : n < 256 ^ 2) : cntOf b = n := by
  unfold cntOf
  rw [show b.drop 62 = (b.drop 56).drop 6 by rw [List.drop_drop], h]; unfold trailF
  rw [drop_appF (by rw [List.length_append, leB_len, leB_len]), List.take_of_length_le (by rw [leB_len]; exact Nat.le_refl _), val_le_of hs]
theorem bad_all {l : List (List UInt8)} {seq n : Nat} : ∀ m i, (∀ j, i ≤ j → j < i + m → goodAt l seq n j = true) → badFrom l seq n m i = i + m
  | 0, i, _ => rfl
  | m + 1, i, h => by
    rw [badFrom, if_pos (h i (by omega) (by omega)), bad_all m (i + 1) (fun j h1 h2 => h j (by omega) (by omega))]; omega
theorem bad_at {l : List (List UInt8)} {seq n k : Nat} : ∀ m i, i ≤ k → k < i + m → (∀ j, i ≤ j → j < k → goodAt l seq n j = true) → goodAt l seq n k = false → badFrom l seq n m i = k
  | 0, i, h1, h2, _, _ => by omega
  | m + 1, i, h1, h2, h3, h4 => by
    by_cases e : i = k
    · subst e; rw [badFrom, h4]; rfl
    · rw [badFrom, if_pos (h3 i (by omega) (by omega))]
      exact bad_at m (i + 1) (by omega) (by omega) (fun j a b => h3 j (by omega) b) h4
theorem good_of {l : List (List UInt8)} {seq n i : Nat} {b : List UInt8} (h : l[i]? = some b) (h1 : b.length = 64) (h2 : b.drop 56 = trailF seq i n) : goodAt l seq n i = true := by
  unfold goodAt; rw [h]; simp [h1, h2]
theorem flat56 (P : List UInt8) (seq n : Nat) : ∀ j, j ≤ n → P.length = 56 * n → (((List.range j).map (blkF seq n P)).map (·.take 56)).flatten = P.take (56 * j)
  | 0, _, _ => by simp
  | j + 1, hj, hP => by
    rw [List.range_succ, List.map_append, List.map_append, List.flatten_append, flat56 P seq n j (by omega) hP, show 56 * (j + 1) = 56 * j + 56 by omega, List.take_add]
    simp [blkF_take hP (show j < n by omega)]
theorem join_frames (seq : Nat) (d : List UInt8) (rest : List (List UInt8)) : joinF (framesF seq d ++ rest) (nblk d.length) = payF d := by
  unfold joinF
  rw [List.take_append_of_le_length (by rw [framesF_len]; exact Nat.le_refl _), List.take_of_length_le (by rw [framesF_len]; exact Nat.le_refl _)]
  unfold framesF
  rw [flat56 _ _ _ _ (Nat.le_refl _) (payF_len d), List.take_of_length_le (by rw [payF_len]; exact Nat.le_refl _)]
theorem pay_head (d : List UInt8) (h : d.length ≤ 6000) : valB ((payF d).take 4) = d.length := by
  unfold payF
  rw [List.append_assoc, List.append_assoc, take_app (leB_len 4 _), val_le_of (by rw [show (256 : Nat) ^ 4 = 4294967296 from rfl]; omega)]
theorem pay_body (d : List UInt8) : ((payF d).drop 8).take d.length = d := by
  unfold payF
  rw [List.append_assoc, drop_appF (by rw [List.length_append, leB_len, leB_len]), take_app rfl]

/-- What was laid is read as it was, whatever stands behind. -/
theorem read_frames (seq : Nat) (d : List UInt8) (rest : List (List UInt8)) (h1 : 1 ≤ seq) (h2 : seq ≤ 2147483647) (hd : d.length ≤ 6000) : readF (framesF seq d ++ rest) = .ok (d, seq, nblk d.length) := by
  obtain ⟨n1, n2⟩ := nblk_bd hd
  have hget : ∀ i, i < nblk d.length → (framesF seq d ++ rest)[i]? = some (blkF seq (nblk d.length) (payF d) i) := fun i hi => by
    rw [List.getElem?_append_left (by rw [framesF_len]; exact hi)]; exact framesF_get seq d i hi
  have hP := payF_len d
  have hl : ∀ i, i < nblk d.length → (blkF seq (nblk d.length) (payF d) i).length = 64 := fun i hi => blkF_len hP hi
  have hdr : ∀ i, i < nblk d.length → (blkF seq (nblk d.length) (payF d) i).drop 56 = trailF seq i (nblk d.length) := fun i hi => blkF_drop hP hi
  have e1 := trail_seq (hdr 0 (by omega)) (by rw [show (256 : Nat) ^ 4 = 4294967296 from rfl]; omega)
  have e2 := trail_idx (hdr 0 (by omega)) (by decide)
  have e3 := trail_cnt (hdr 0 (by omega)) (by rw [show (256 : Nat) ^ 2 = 65536 from rfl]; omega)
  have eb : badFrom (framesF seq d ++ rest) seq (nblk d.length) (nblk d.length) 0 = nblk d.length := by
    rw [bad_all _ _ (fun j _ hj => good_of (hget j (by omega)) (hl j (by omega)) (hdr j (by omega)))]; omega
  have ej := join_frames seq d rest
  unfold readF
  rw [hget 0 (by omega)]
  simp only [hl 0 (by omega), e1, e2, e3, eb, ej]
  rw [if_neg (by omega), if_neg (by omega), if_neg (by omega), pay_head d hd, if_neg (by rw [hP]; have : nblk d.length = (d.length + 8 + 55) / 56 := rfl; omega), pay_body d]
  rw [if_pos]
  rw [List.take_append_of_le_length (by rw [framesF_len]; exact Nat.le_refl _), List.take_of_length_le (by rw [framesF_len]; exact Nat.le_refl _)]
/-- Unlike texts, or numbers, have unlike blocks. -/
theorem frames_inj {i k : Nat} {a b : List UInt8} (hi : 1 ≤ i ∧ i ≤ 2147483647) (hk : 1 ≤ k ∧ k ≤ 2147483647) (ha : a.length ≤ 6000) (hb : b.length ≤ 6000) (h : framesF i a = framesF k b) : a = b ∧ i = k := by
  have h1 := read_frames i a [] hi.1 hi.2 ha
  have h2 := read_frames k b [] hk.1 hk.2 hb
  rw [h, h2] at h1
  simp only [Except.ok.injEq, Prod.mk.injEq] at h1
  exact ⟨h1.1.symm, h1.2.1.symm⟩
end Go.Proofs.YtaibmdjcppeopaaGreatDoor
