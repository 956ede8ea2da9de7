/- Plain arithmetic of frames: numbers as bytes, the payload, the blocks, how they are read. No program, no conditions. -/
import Derived.Test.YtaibmdjcppeopaaGreatDoorCkM
namespace Go.Proofs.YtaibmdjcppeopaaGreatDoor
open Go

/-- The bytes of a number, the lowest first. -/
def leB : Nat → Nat → List UInt8
  | 0, _ => []
  | k + 1, n => UInt8.ofNat (n % 256) :: leB k (n / 256)
/-- The number of bytes. -/
def valB : List UInt8 → Nat
  | [] => 0
  | b :: r => b.toNat + 256 * valB r
theorem leB_len : ∀ k n, (leB k n).length = k
  | 0, _ => rfl
  | k + 1, n => by simp [leB, leB_len k]
theorem ofNat_toNat (n : Nat) (h : n < 256) : (UInt8.ofNat n).toNat = n := by simp; omega
theorem val_le : ∀ k n, valB (leB k n) = n % 256 ^ k
  | 0, n => by simp [leB, valB, Nat.mod_one]
  | k + 1, n => by
    rw [leB, valB, val_le k, ofNat_toNat _ (by omega), Nat.pow_succ, Nat.mul_comm (256 ^ k) 256, Nat.mod_mul]
theorem val_le_of {k n : Nat} (h : n < 256 ^ k) : valB (leB k n) = n := by rw [val_le, Nat.mod_eq_of_lt h]
theorem valB_lt : ∀ l : List UInt8, valB l < 256 ^ l.length
  | [] => by simp [valB]
  | b :: r => by
    have h := valB_lt r
    have hb := b.toNat_lt
    rw [valB, List.length_cons, Nat.pow_succ]
    have : 256 * valB r + 256 ≤ 256 ^ r.length * 256 := by omega
    omega
theorem le_val : ∀ l : List UInt8, leB l.length (valB l) = l
  | [] => rfl
  | b :: r => by
    have hb := b.toNat_lt
    rw [List.length_cons, leB, valB, show (b.toNat + 256 * valB r) / 256 = valB r by omega, show (b.toNat + 256 * valB r) % 256 = b.toNat by omega, le_val r]
    simp
theorem leB_inj {k m n : Nat} (hm : m < 256 ^ k) (hn : n < 256 ^ k) (h : leB k m = leB k n) : m = n := by
  rw [← val_le_of hm, h, val_le_of hn]
theorem leB_zero : ∀ k, leB k 0 = List.replicate k 0
  | 0 => rfl
  | k + 1 => by rw [leB, leB_zero k]; rfl

/-- How many blocks. -/
def nblk (len : Nat) : Nat := (len + 8 + 55) / 56
/-- The checksum of a text. -/
def crcN (d : List UInt8) : Nat := (moreI 1 d).toNat
theorem crcN_lt (d : List UInt8) : crcN d < 256 ^ 4 := by
  have h := moreI_bd d 1 (by unfold U32; omega)
  unfold U32 at h; unfold crcN
  rw [show (256 : Nat) ^ 4 = 4294967296 from rfl]; omega
/-- The payload. -/
def payF (d : List UInt8) : List UInt8 := leB 4 d.length ++ leB 4 (crcN d) ++ d ++ List.replicate (56 * nblk d.length - (d.length + 8)) 0
theorem payF_len (d : List UInt8) : (payF d).length = 56 * nblk d.length := by
  unfold payF nblk; simp [leB_len]; omega
def trailF (seq i n : Nat) : List UInt8 := leB 4 seq ++ leB 2 i ++ leB 2 n
theorem trailF_len (seq i n : Nat) : (trailF seq i n).length = 8 := by simp [trailF, leB_len]
def blkF (seq n : Nat) (P : List UInt8) (i : Nat) : List UInt8 := (P.drop (56 * i)).take 56 ++ trailF seq i n
/-- The blocks of a text. -/
def framesF (seq : Nat) (d : List UInt8) : List (List UInt8) := (List.range (nblk d.length)).map (blkF seq (nblk d.length) (payF d))
theorem framesF_len (seq : Nat) (d : List UInt8) : (framesF seq d).length = nblk d.length := by simp [framesF]
theorem framesF_get (seq : Nat) (d : List UInt8) (i : Nat) (h : i < nblk d.length) : (framesF seq d)[i]? = some (blkF seq (nblk d.length) (payF d) i) := by simp [framesF, h]

/-- What stands in a trailer. -/
def seqOf (b : List UInt8) : Nat := valB ((b.drop 56).take 4)
def idxOf (b : List UInt8) : Nat := valB ((b.drop 60).take 2)
def cntOf (b : List UInt8) : Nat := valB ((b.drop 62).take 2)
/-- The payload that blocks hold. -/
def joinF (l : List (List UInt8)) (n : Nat) : List UInt8 := ((l.take n).map (·.take 56)).flatten
/-- Is block i of a row the one that it should be? -/
def goodAt (l : List (List UInt8)) (seq n i : Nat) : Bool := match l[i]? with | none => false | some b => decide (b.length = 64) && decide (b.drop 56 = trailF seq i n)
/-- The first of the places below n, from i on, that is not good; n if there is none. -/
def badFrom (l : List (List UInt8)) (seq n : Nat) : Nat → Nat → Nat
  | 0, i => i
  | m + 1, i => if goodAt l seq n i then badFrom l seq n m (i + 1) else i
/-- What a row of blocks reads as: a text, its number, how many blocks; or the place of what is wrong. -/
def readF (l : List (List UInt8)) : Except Nat (List UInt8 × Nat × Nat) :=
  match l[0]? with
  | none => .error 0
  | some b =>
    if b.length ≠ 64 then .error 0
    else if seqOf b < 1 ∨ 2147483647 < seqOf b ∨ idxOf b ≠ 0 ∨ cntOf b < 1 ∨ 108 < cntOf b then .error 0
    else if badFrom l (seqOf b) (cntOf b) (cntOf b) 0 < cntOf b then .error (badFrom l (seqOf b) (cntOf b) (cntOf b) 0)
    else
      let P := joinF l (cntOf b)
      let k := valB (P.take 4)
      if 6000 < k ∨ P.length < k + 8 then .error 0
      else if framesF (seqOf b) ((P.drop 8).take k) = l.take (cntOf b) then .ok ((P.drop 8).take k, seqOf b, cntOf b) else .error 0
end Go.Proofs.YtaibmdjcppeopaaGreatDoor
