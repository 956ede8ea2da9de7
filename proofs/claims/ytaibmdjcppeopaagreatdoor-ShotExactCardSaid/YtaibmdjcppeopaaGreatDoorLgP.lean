/- Plain arithmetic of a log's image: a disk's bytes as its blocks, a text's parts. No program, no conditions. -/
import Derived.Test.YtaibmdjcppeopaaGreatDoorLgR
namespace Go.Proofs.YtaibmdjcppeopaaGreatDoor
open Go

theorem rowsD_app (d : DS) (a m k : Nat) : rowsD d a (m + k) = rowsD d a m ++ rowsD d (a + m) k := by
  refine rowsD_eq (by rw [List.length_append, rowsD_len, rowsD_len]) fun i hi => ?_
  by_cases h : i < m
  · rw [List.getElem?_append_left (by rw [rowsD_len]; exact h), rowsD_get h]
  · rw [List.getElem?_append_right (by rw [rowsD_len]; omega), rowsD_len, rowsD_get (by omega), show a + m + (i - m) = a + i by omega]
theorem rows_flat (d : DS) : ∀ n, 64 * n ≤ d.bs.length → (rowsD d 0 n).flatten = d.bs.take (64 * n)
  | 0, _ => by simp [rowsD]
  | n + 1, h => by
    rw [rowsD_app d 0 n 1, List.flatten_append, rows_flat d n (by omega), show 64 * (n + 1) = 64 * n + 64 by omega, List.take_add]
    congr 1
    simp [rowsD, DS.blk]
/-- A disk's bytes are its blocks. -/
theorem bs_rows {d : DS} (h : d.bs.length % 64 = 0) : d.bs = (rowsD d 0 d.n).flatten := by
  rw [rows_flat d d.n (by unfold DS.n; omega), List.take_of_length_le (by unfold DS.n; omega)]
theorem flat_zeros : ∀ k, (List.replicate k zeroF).flatten = List.replicate (64 * k) 0
  | 0 => rfl
  | k + 1 => by
    rw [List.replicate_succ, List.flatten_cons, flat_zeros k, show 64 * (k + 1) = 64 + 64 * k by omega]
    unfold zeroF
    rw [List.replicate_append_replicate]
/-- The bytes of a disk that holds a log. -/
theorem LogAt.image {d : DS} {a m b : Nat} {rs : List (List UInt8)} (h : LogAt d a m b rs) (hw : d.bs.length % 64 = 0) :
    d.bs = (rowsD d 0 a).flatten ++ ((layR b rs).flatten ++ List.replicate (64 * (m - (layR b rs).length)) 0) ++ (rowsD d (a + m) (d.n - (a + m))).flatten := by
  have hf := h.fits
  have e : rowsD d 0 d.n = rowsD d 0 a ++ rowsD d a m ++ rowsD d (a + m) (d.n - (a + m)) := by
    conv => lhs; rw [show d.n = a + m + (d.n - (a + m)) by omega, rowsD_app, rowsD_app, Nat.zero_add, Nat.zero_add]
  conv => lhs; rw [bs_rows hw, e, List.flatten_append, List.flatten_append, h.rows, List.flatten_append, flat_zeros]

/-- The whole blocks of a text. -/
def partsF (l : List UInt8) : List (List UInt8) := (List.range (l.length / 64)).map fun i => (l.drop (64 * i)).take 64
theorem partsF_len (l : List UInt8) : (partsF l).length = l.length / 64 := by simp [partsF]
/-- They are the blocks of the disk that is made of it. -/
theorem parts_rows (l : List UInt8) : rowsD (newD (l.take (64 * (l.length / 64)))) 0 (newD (l.take (64 * (l.length / 64)))).n = partsF l := by
  have hn : (newD (l.take (64 * (l.length / 64)))).n = l.length / 64 := by
    unfold DS.n newD
    simp only [List.length_take]; omega
  rw [hn]
  refine rowsD_eq (partsF_len l) fun i hi => ?_
  unfold partsF
  rw [List.getElem?_map, List.getElem?_range hi, Nat.zero_add]
  show some _ = some (((l.take (64 * (l.length / 64))).drop (64 * i)).take 64)
  rw [List.drop_take, List.take_take, Nat.min_eq_left (by omega)]
theorem rows_drop (d : DS) (a m : Nat) : (rowsD d 0 (a + m)).drop a = rowsD d a m := by
  rw [rowsD_app d 0 a m, List.drop_left' (rowsD_len d 0 a), Nat.zero_add]
theorem rowsD_take (d : DS) (a m : Nat) : (rowsD d 0 (a + m)).take a = rowsD d 0 a := by
  rw [rowsD_app d 0 a m, List.take_left' (rowsD_len d 0 a)]
/-- Part of the blocks: what the law cuts out. -/
theorem rows_part (d : DS) {a m n : Nat} (h : a + m ≤ n) : ((rowsD d 0 n).take (a + m)).drop a = rowsD d a m := by
  conv => lhs; rw [show n = a + m + (n - (a + m)) by omega, rowsD_take d (a + m) (n - (a + m)), rows_drop]
theorem rows_rest (d : DS) {a n : Nat} (h : a ≤ n) : (rowsD d 0 n).drop a = rowsD d a (n - a) := by
  conv => lhs; rw [show n = a + (n - a) by omega, rows_drop]

/-- The error that an Add gives (its place in the law's list), and whether it lays. -/
def addKind (len room next : Nat) : Nat := if 6000 < len then 1 else if room < nblk len ∨ 1073741824 ≤ next then 7 else 0
end Go.Proofs.YtaibmdjcppeopaaGreatDoor
