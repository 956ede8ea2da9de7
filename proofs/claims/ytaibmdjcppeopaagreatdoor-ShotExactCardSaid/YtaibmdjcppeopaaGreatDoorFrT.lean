/- A frame whose last block was torn over zeros is not read. No program, no conditions. -/
import Derived.Test.YtaibmdjcppeopaaGreatDoorFrB
namespace Go.Proofs.YtaibmdjcppeopaaGreatDoor
open Go

def zeroF : List UInt8 := List.replicate 64 0
theorem val_zeros : ∀ n, valB (List.replicate n 0) = 0
  | 0 => rfl
  | n + 1 => by rw [List.replicate_succ, valB, val_zeros n]; rfl
theorem trail_not_zero {seq i n : Nat} (h1 : 1 ≤ seq) (h2 : seq < 256 ^ 4) : trailF seq i n ≠ List.replicate 8 0 := by
  intro h
  have h3 : (trailF seq i n).take 4 = (List.replicate 8 (0 : UInt8)).take 4 := by rw [h]
  unfold trailF at h3
  rw [List.append_assoc, take_app (leB_len 4 seq)] at h3
  have h4 := congrArg valB h3
  rw [val_le_of h2] at h4
  have h5 : valB ((List.replicate 8 (0 : UInt8)).take 4) = 0 := by decide
  omega
/-- The first block is whole, the ones below k are good, block k is not: k is told. -/
theorem read_bad {l : List (List UInt8)} {seq n k : Nat} {P : List UInt8} (hP : P.length = 56 * n) (h1 : 1 ≤ seq) (h2 : seq ≤ 2147483647) (hn : 1 ≤ n ∧ n ≤ 108) (h0 : l[0]? = some (blkF seq n P 0)) (hk : k < n)
    (hg : ∀ j, j < k → goodAt l seq n j = true) (hb : goodAt l seq n k = false) : readF l = .error k := by
  have hl : (blkF seq n P 0).length = 64 := blkF_len hP (by omega)
  have hdr : (blkF seq n P 0).drop 56 = trailF seq 0 n := blkF_drop hP (by omega)
  have e1 := trail_seq hdr (by rw [show (256 : Nat) ^ 4 = 4294967296 from rfl]; omega)
  have e2 := trail_idx hdr (by decide)
  have e3 := trail_cnt hdr (by rw [show (256 : Nat) ^ 2 = 65536 from rfl]; omega)
  have eb : badFrom l seq n n 0 = k := bad_at n 0 (by omega) (by omega) (fun j _ hj => hg j hj) hb
  unfold readF
  rw [h0]
  simp only [hl, e1, e2, e3, eb]
  rw [if_neg (by omega), if_neg (by omega), if_pos hk]
/-- A torn block. -/
def tornB (b : List UInt8) (t : Nat) : List UInt8 := b.take t ++ List.replicate (64 - t) 0
theorem tornB_len {b : List UInt8} {t : Nat} (hb : b.length = 64) (ht : t ≤ 64) : (tornB b t).length = 64 := by simp [tornB]; omega
theorem tornB_low {b : List UInt8} {t j : Nat} (hb : b.length = 64) (ht : t ≤ j) (hj : j ≤ 64) : (tornB b t).drop j = List.replicate (64 - j) 0 := by
  unfold tornB
  rw [List.drop_append, List.drop_of_length_le (by simp; omega), List.nil_append, List.drop_replicate]
  congr 1; simp; omega
theorem tornB_take {b : List UInt8} {t j : Nat} (hb : b.length = 64) (hj : j ≤ t) (ht : t ≤ 64) : (tornB b t).take j = b.take j := by
  unfold tornB
  rw [List.take_append_of_le_length (by simp; omega), List.take_take, Nat.min_eq_left hj]
theorem split_at {a b : List UInt8} (j : Nat) (h1 : a.take j = b.take j) (h2 : a.drop j = b.drop j) : a = b := by
  rw [← List.take_append_drop j a, h1, h2, List.take_append_drop]

theorem torn_read {seq k t : Nat} {d : List UInt8} {l : List (List UInt8)} {b : List UInt8} (h1 : 1 ≤ seq) (h2 : seq ≤ 2147483647) (hd : d.length ≤ 6000) (hk : k < nblk d.length) (ht : t ≤ 64) (hb : (framesF seq d)[k]? = some b)
    (hlen : l.length = nblk d.length) (hlow : ∀ i, i < k → l[i]? = (framesF seq d)[i]?) (hat : l[k]? = some (tornB b t)) (hup : ∀ i, k < i → i < nblk d.length → l[i]? = some zeroF) :
    readF l = if tornB b t = b then (if k + 1 = nblk d.length then .ok (d, seq, nblk d.length) else .error (k + 1)) else .error k := by
  obtain ⟨n1, n2⟩ := nblk_bd hd
  have hP := payF_len d
  rw [framesF_get seq d k hk] at hb
  obtain rfl := Option.some.inj hb
  have hbl : (blkF seq (nblk d.length) (payF d) k).length = 64 := blkF_len hP hk
  have hbd : (blkF seq (nblk d.length) (payF d) k).drop 56 = trailF seq k (nblk d.length) := blkF_drop hP hk
  have s4 : seq < 256 ^ 4 := by rw [show (256 : Nat) ^ 4 = 4294967296 from rfl]; omega
  have hgl : ∀ j, j < k → goodAt l seq (nblk d.length) j = true := fun j hj => good_of ((hlow j hj).trans (framesF_get seq d j (by omega))) (blkF_len hP (by omega)) (blkF_drop hP (by omega))
  by_cases e : tornB (blkF seq (nblk d.length) (payF d) k) t = blkF seq (nblk d.length) (payF d) k
  · rw [if_pos e]
    rw [e] at hat
    by_cases hl : k + 1 = nblk d.length
    · rw [if_pos hl]
      have hx : l = framesF seq d ++ [] := by
        rw [List.append_nil]
        apply List.ext_getElem?
        intro i
        rcases Nat.lt_trichotomy i k with h | h | h
        · exact hlow i h
        · subst h; rw [hat, framesF_get seq d i hk]
        · rw [List.getElem?_eq_none (by omega), List.getElem?_eq_none (by rw [framesF_len]; omega)]
      rw [hx]
      exact read_frames seq d [] h1 h2 hd
    · rw [if_neg hl]
      refine read_bad hP h1 h2 ⟨n1, n2⟩ ?_ (by omega) (fun j hj => ?_) ?_
      · by_cases h0 : k = 0
        · subst h0; exact hat
        · rw [hlow 0 (by omega)]; exact framesF_get seq d 0 (by omega)
      · by_cases hjk : j = k
        · subst hjk; exact good_of hat hbl hbd
        · exact hgl j (by omega)
      · have hz := hup (k + 1) (by omega) (by omega)
        unfold goodAt; rw [hz]
        have : (zeroF.drop 56 : List UInt8) = List.replicate 8 0 := by decide
        simp only [this, Bool.and_eq_false_iff, decide_eq_false_iff_not]
        exact .inr fun h => trail_not_zero h1 s4 h.symm
  · rw [if_neg e]
    by_cases h0 : k = 0
    · subst h0
      have ht62 : t ≤ 62 := by
        rcases Nat.lt_or_ge t 63 with h | h
        · omega
        · exfalso; apply e
          by_cases h64 : t = 64
          · subst h64; unfold tornB; rw [List.take_of_length_le (by omega)]; simp
          · obtain rfl : t = 63 := by omega
            refine split_at 63 (tornB_take hbl (Nat.le_refl _) (by omega)) ?_
            rw [tornB_low hbl (Nat.le_refl _) (by omega), show (blkF seq (nblk d.length) (payF d) 0).drop 63 = ((blkF seq (nblk d.length) (payF d) 0).drop 56).drop 7 by rw [List.drop_drop], hbd]
            unfold trailF
            rw [show (leB 4 seq ++ leB 2 0 ++ leB 2 (nblk d.length)).drop 7 = ((leB 4 seq ++ leB 2 0 ++ leB 2 (nblk d.length)).drop 6).drop 1 by rw [List.drop_drop], drop_appF (by rw [List.length_append, leB_len, leB_len])]
            show [0] = [UInt8.ofNat (nblk d.length / 256 % 256)]
            rw [show nblk d.length / 256 % 256 = 0 by omega]; rfl
      have hc : cntOf (tornB (blkF seq (nblk d.length) (payF d) 0) t) = 0 := by
        unfold cntOf; rw [tornB_low hbl ht62 (by omega)]; decide
      unfold readF
      rw [hat]
      simp only [tornB_len hbl ht, hc]
      rw [if_neg (by omega), if_pos (by omega)]
    · refine read_bad hP h1 h2 ⟨n1, n2⟩ (by rw [hlow 0 (by omega)]; exact framesF_get seq d 0 (by omega)) hk hgl ?_
      unfold goodAt; rw [hat]
      simp only [tornB_len hbl ht, Bool.and_eq_false_iff, decide_eq_false_iff_not]
      refine .inr fun h => ?_
      by_cases h56 : t ≤ 56
      · rw [tornB_low hbl h56 (by omega)] at h
        exact trail_not_zero h1 s4 h.symm
      · exact e (split_at 56 (tornB_take hbl (by omega) ht) (by rw [h, hbd]))
end Go.Proofs.YtaibmdjcppeopaaGreatDoor
