/- Plain arithmetic of a log on a disk: opened, added to, cut short, wiped. No program, no conditions. -/
import Derived.Test.YtaibmdjcppeopaaGreatDoorLgD
namespace Go.Proofs.YtaibmdjcppeopaaGreatDoor
open Go

/-- The blocks of a region. -/
def rowsD (d : DS) (a m : Nat) : List (List UInt8) := (List.range m).map fun i => d.blk (a + i)
theorem rowsD_len (d : DS) (a m : Nat) : (rowsD d a m).length = m := by simp [rowsD]
theorem rowsD_get {d : DS} {a m i : Nat} (h : i < m) : (rowsD d a m)[i]? = some (d.blk (a + i)) := by simp [rowsD, h]
theorem rowsD_eq {d : DS} {a m : Nat} {L : List (List UInt8)} (hl : L.length = m) (h : ∀ i, i < m → L[i]? = some (d.blk (a + i))) : rowsD d a m = L := by
  apply List.ext_getElem?
  intro i
  by_cases hi : i < m
  · rw [rowsD_get hi, h i hi]
  · rw [List.getElem?_eq_none (by rw [rowsD_len]; omega), List.getElem?_eq_none (by omega)]
theorem rowsD_same {d e : DS} {a m : Nat} (h : ∀ i, i < m → e.blk (a + i) = d.blk (a + i)) : rowsD e a m = rowsD d a m :=
  rowsD_eq (rowsD_len d a m) fun i hi => by rw [rowsD_get hi, h i hi]
theorem getD_of {L : List (List UInt8)} {i : Nat} (h : i < L.length) : L[i]? = some (L.getD i []) := by simp [List.getElem?_eq_getElem h]

/-- The region of m blocks from a on holds the records that follow b, and zeros. -/
structure LogAt (d : DS) (a m b : Nat) (rs : List (List UInt8)) : Prop where
  fits : a + m ≤ d.n
  small : ∀ x ∈ rs, x.length ≤ 6000
  bound : b + rs.length ≤ 2147483647
  room : (layR b rs).length ≤ m
  rows : rowsD d a m = layR b rs ++ List.replicate (m - (layR b rs).length) zeroF
theorem LogAt.follows {d : DS} {a m b : Nat} {rs : List (List UInt8)} (h : LogAt d a m b rs) : Follows (rowsD d a m) b rs := by
  rw [h.rows]; exact follows_zeros h.small h.bound
theorem LogAt.low {d : DS} {a m b i : Nat} {rs : List (List UInt8)} (h : LogAt d a m b rs) (hi : i < (layR b rs).length) : (layR b rs)[i]? = some (d.blk (a + i)) := by
  have := h.room
  rw [← rowsD_get (show i < m by omega), h.rows, List.getElem?_append_left hi]
theorem LogAt.up {d : DS} {a m b i : Nat} {rs : List (List UInt8)} (h : LogAt d a m b rs) (hi : (layR b rs).length ≤ i) (hm : i < m) : d.blk (a + i) = zeroF := by
  have h1 := rowsD_get (d := d) (a := a) hm
  rw [h.rows, List.getElem?_append_right hi, List.getElem?_replicate_of_lt (by omega)] at h1
  exact (Option.some.inj h1).symm
/-- The blocks of the region are as they were: so is the log. -/
theorem LogAt.same {d e : DS} {a m b : Nat} {rs : List (List UInt8)} (h : LogAt d a m b rs) (hn : e.n = d.n) (hs : ∀ i, i < m → e.blk (a + i) = d.blk (a + i)) : LogAt e a m b rs :=
  ⟨by rw [hn]; exact h.fits, h.small, h.bound, h.room, by rw [rowsD_same hs]; exact h.rows⟩

theorem frames_64 {q : Nat} {x : List UInt8} : ∀ s ∈ framesF q x, s.length = 64 := fun s hs => by
  obtain ⟨i, hi⟩ := List.getElem?_of_mem hs
  have hl := (List.getElem?_eq_some_iff.1 hi).1
  rw [framesF_len] at hl
  rw [framesF_get q x i hl] at hi
  rw [← Option.some.inj hi]
  exact blkF_len (payF_len x) hl

/-- A record is added. -/
theorem LogAt.add {d : DS} {a m b : Nat} {rs : List (List UInt8)} {x : List UInt8} (h : LogAt d a m b rs) (hx : x.length ≤ 6000) (hb : b + rs.length + 1 ≤ 2147483647) (hr : nblk x.length ≤ m - (layR b rs).length) (ho : d.on = true)
    (hf : d.fuse < 0 ∨ (nblk x.length : Int) ≤ d.fuse) :
    ∃ e, d.puts (a + (layR b rs).length) (framesF (b + rs.length + 1) x) = (0, e) ∧ LogAt e a m b (rs ++ [x]) ∧ d.Like e ∧ e.on = true ∧ e.fuse = fuseS d.fuse (nblk x.length) ∧ e.wr = d.wr + nblk x.length ∧ ∀ j, (j < a ∨ a + m ≤ j) → e.blk j = d.blk j := by
  have hroom := h.room
  have hfit := h.fits
  have n1 : 1 ≤ nblk x.length := (nblk_bd hx).1
  obtain ⟨e, h1, h2, h3, h4, h5, h6⟩ := puts_ok (framesF (b + rs.length + 1) x) d (a + (layR b rs).length) (by rw [framesF_len]; omega) frames_64 ho (by rw [framesF_len]; exact hf)
  rw [framesF_len] at h4 h5
  simp only [framesF_len] at h6
  refine ⟨e, h1, ⟨by rw [h2.n]; exact hfit, fun y hy => ?_, by rw [List.length_append, List.length_singleton]; omega, by rw [layR_snoc, List.length_append, framesF_len]; omega, ?_⟩, h2, h3, h4, h5, fun j hj => by rw [h6, if_neg (by omega)]⟩
  · rcases List.mem_append.1 hy with hy | hy
    · exact h.small y hy
    · rw [List.mem_singleton.1 hy]; exact hx
  · rw [layR_snoc, List.length_append, framesF_len]
    refine rowsD_eq (by rw [List.length_append, List.length_append, framesF_len, List.length_replicate]; omega) fun i hi => ?_
    rw [h6]
    by_cases hi1 : i < (layR b rs).length
    · rw [List.append_assoc, List.getElem?_append_left hi1, if_neg (by omega), h.low hi1]
    · by_cases hi2 : i < (layR b rs).length + nblk x.length
      · rw [if_pos (by omega), List.getElem?_append_left (by rw [List.length_append, framesF_len]; omega), List.getElem?_append_right (by omega), show a + i - (a + (layR b rs).length) = i - (layR b rs).length by omega]
        exact getD_of (by rw [framesF_len]; omega)
      · rw [if_neg (by omega), h.up (by omega) hi, List.getElem?_append_right (by rw [List.length_append, framesF_len]; omega), List.getElem?_replicate_of_lt (by rw [List.length_append, framesF_len]; omega)]
/-- A record is added, and the power goes. -/
theorem LogAt.cut {d : DS} {a m b k : Nat} {rs : List (List UInt8)} {x : List UInt8} (h : LogAt d a m b rs) (hx : x.length ≤ 6000) (hb : b + rs.length + 1 ≤ 2147483647) (hr : nblk x.length ≤ m - (layR b rs).length) (ho : d.on = true) (ht : d.torn ≤ 64)
    (hf : d.fuse = k) (hk : k < nblk x.length) :
    ∃ e, d.puts (a + (layR b rs).length) (framesF (b + rs.length + 1) x) = (14, e) ∧ (Follows (rowsD e a m) b rs ∨ Follows (rowsD e a m) b (rs ++ [x])) ∧ d.Like e ∧ e.on = false ∧ e.wr = d.wr + k ∧ ∀ j, (j < a ∨ a + m ≤ j) → e.blk j = d.blk j := by
  have hroom := h.room
  have hfit := h.fits
  obtain ⟨e, h1, h2, h3, h4, h5⟩ := puts_cut (framesF (b + rs.length + 1) x) d (a + (layR b rs).length) k (by rw [framesF_len]; omega) frames_64 ho ht hf (by rw [framesF_len]; exact hk)
  refine ⟨e, h1, ?_, h2, h3, h4, fun j hj => by rw [h5, if_neg (by omega), if_neg (by omega)]⟩
  have hsplit : rowsD e a m = layR b rs ++ rowsD e (a + (layR b rs).length) (m - (layR b rs).length) := by
    refine rowsD_eq (by rw [List.length_append, rowsD_len]; omega) fun i hi => ?_
    by_cases hi1 : i < (layR b rs).length
    · rw [List.getElem?_append_left hi1, h.low hi1, h5, if_neg (by omega), if_neg (by omega)]
    · rw [List.getElem?_append_right (by omega), rowsD_get (by omega), show a + (layR b rs).length + (i - (layR b rs).length) = a + i by omega]
  have hkx := getD_of (L := framesF (b + rs.length + 1) x) (i := k) (by rw [framesF_len]; exact hk)
  have hkeep := keeps (b := b) (k := k) (t := d.torn) (d := x) (rs := rs) (T := rowsD e (a + (layR b rs).length) (m - (layR b rs).length)) h.small hb hx hk ht hkx (by rw [rowsD_len]; exact hr)
    (fun i hi => by rw [rowsD_get (by omega), h5, if_pos (by omega), show a + (layR b rs).length + i - (a + (layR b rs).length) = i by omega]; exact (getD_of (by rw [framesF_len]; omega)).symm)
    (by
      rw [rowsD_get (by omega), h5, if_neg (by omega), if_pos rfl, show a + (layR b rs).length + k = a + ((layR b rs).length + k) by omega, h.up (by omega) (by omega)]
      unfold tornB zeroF
      rw [List.drop_replicate])
    (fun i h1 h2' => by rw [rowsD_len] at h2'; rw [rowsD_get h2', h5, if_neg (by omega), if_neg (by omega), show a + (layR b rs).length + i = a + ((layR b rs).length + i) by omega, h.up (by omega) (by omega)])
  rw [← hsplit] at hkeep
  split at hkeep
  · exact .inr hkeep
  · exact .inl hkeep
/-- A log is opened: what lies behind the records is wiped. -/
theorem open_ok {d : DS} {a m b : Nat} {rs : List (List UInt8)} (h : Follows (rowsD d a m) b rs) (hfit : a + m ≤ d.n) (ho : d.on = true) (hf : d.fuse < 0) :
    (layR b rs).length ≤ m ∧ ∃ e, d.wipe (a + (layR b rs).length) (m - (layR b rs).length) = (0, e) ∧ LogAt e a m b rs ∧ d.Like e ∧ e.on = true ∧ e.fuse = d.fuse ∧ ∀ j, (j < a ∨ a + m ≤ j) → e.blk j = d.blk j := by
  have hU : (layR b rs).length ≤ m := by
    have := congrArg List.length h.laid
    rw [List.length_take, rowsD_len] at this; omega
  refine ⟨hU, ?_⟩
  obtain ⟨e, h1, h2, h3, h4, _, h6⟩ := wipe_ok (m - (layR b rs).length) d (a + (layR b rs).length) (by omega) ho (.inl hf)
  refine ⟨e, h1, ⟨by rw [h2.n]; exact hfit, h.small, h.bound, hU, ?_⟩, h2, h3, by rw [h4]; unfold fuseS; rw [if_pos hf], fun j hj => by rw [h6, if_neg (by omega)]⟩
  refine rowsD_eq (by rw [List.length_append, List.length_replicate]; omega) fun i hi => ?_
  rw [h6]
  by_cases hi1 : i < (layR b rs).length
  · rw [List.getElem?_append_left hi1, if_neg (by omega), ← rowsD_get hi, ← h.laid, List.getElem?_take_of_lt hi1]
  · rw [List.getElem?_append_right (by omega), if_pos (by omega), List.getElem?_replicate_of_lt (by omega)]
/-- A log is wiped. -/
theorem reset_ok {d : DS} {a m b c : Nat} {rs : List (List UInt8)} (h : LogAt d a m b rs) (hc : c ≤ 2147483647) (ho : d.on = true) (hf : d.fuse < 0 ∨ (d.dirty a m : Int) ≤ d.fuse) :
    ∃ e, d.wipe a m = (0, e) ∧ LogAt e a m c [] ∧ d.Like e ∧ e.on = true ∧ e.fuse = fuseS d.fuse (d.dirty a m) ∧ e.wr = d.wr + d.dirty a m ∧ ∀ j, (j < a ∨ a + m ≤ j) → e.blk j = d.blk j := by
  obtain ⟨e, h1, h2, h3, h4, h5, h6⟩ := wipe_ok m d a h.fits ho hf
  refine ⟨e, h1, ⟨by rw [h2.n]; exact h.fits, by simp, by simpa using hc, by simp [layR], ?_⟩, h2, h3, h4, h5, fun j hj => by rw [h6, if_neg (by omega)]⟩
  refine rowsD_eq (by simp [layR]) fun i hi => ?_
  rw [h6, if_pos (by omega)]
  simp [layR, hi]
theorem follows_none {l : List (List UInt8)} {b : Nat} (hb : b ≤ 2147483647) (h : nextF l b = none) : Follows l b [] :=
  ⟨by simp, by simpa using hb, by simp [layR], by simpa [layR] using h⟩
theorem blk_not_zero {q n i : Nat} {P : List UInt8} (hP : P.length = 56 * n) (hi : i < n) (h1 : 1 ≤ q) (h2 : q ≤ 2147483647) : blkF q n P i ≠ zeroF := fun h => by
  have := blkF_drop (seq := q) hP hi
  rw [h] at this
  exact trail_not_zero h1 (by rw [show (256 : Nat) ^ 4 = 4294967296 from rfl]; omega) (this.symm.trans (by decide))
/-- A wiping is cut short: nothing follows, or no block was wiped and all is as it was. -/
theorem reset_cut {d : DS} {a m b f : Nat} {rs : List (List UInt8)} (h : LogAt d a m b rs) (hb : b + 1 < 256) (hs : ∀ x ∈ rs, x.length ≤ 200) (ho : d.on = true) (ht : d.torn ≤ 64) (hf : d.fuse = f) (hd : f < d.dirty a m) :
    ∃ e, d.wipe a m = (14, e) ∧ (Follows (rowsD e a m) b [] ∨ f = 0 ∧ Follows (rowsD e a m) b rs) ∧ d.Like e ∧ e.on = false ∧ e.wr = d.wr + f ∧ ∀ j, (j < a ∨ a + m ≤ j) → e.blk j = d.blk j := by
  obtain ⟨e, k, h1, h2, h3, h4, h5, h6, h7, h8, h9⟩ := wipe_cut m d a f h.fits ho ht hf hd
  refine ⟨e, h1, ?_, h2, h3, h4, fun j hj => by rw [h9, if_neg (by omega), if_neg (by omega)]⟩
  by_cases hk : a < k
  · refine .inl (follows_none (by omega) (nextF_none (readF_zero ?_)))
    rw [rowsD_get (by omega), Nat.add_zero, h9, if_pos (by omega)]
  · obtain rfl : k = a := by omega
    have f0 : f = 0 := by rw [h8, Nat.sub_self]; rfl
    cases rs with
    | nil =>
      exfalso
      have := h.up (i := 0) (by simp [layR]) (by omega)
      exact h7 this
    | cons x r =>
      have hx6 : x.length ≤ 200 := hs x (by simp)
      have hb1 : b + 1 ≤ 2147483647 := by omega
      have n1 := (nblk_bd (m := x.length) (by omega)).1
      have h0 : d.blk k = blkF (b + 1) (nblk x.length) (payF x) 0 := by
        have := h.low (i := 0) (by rw [layR, List.length_append, framesF_len]; omega)
        rw [layR, List.getElem?_append_left (by rw [framesF_len]; omega), framesF_get _ _ _ (by omega), Nat.add_zero] at this
        exact (Option.some.inj this).symm
      have hrow : (rowsD e k m)[0]? = some (List.replicate d.torn 0 ++ (d.blk k).drop d.torn) := by
        rw [rowsD_get (by omega), Nat.add_zero, h9, if_neg (by omega), if_pos rfl]
      rcases wiped_first hb hx6 rfl h0 ht hrow with hn | hn
      · exact .inl (follows_none (by omega) hn)
      · refine .inr ⟨f0, ?_⟩
        rw [rowsD_same (d := d) (e := e) fun i hi => ?_]
        · exact h.follows
        · rw [h9, if_neg (by omega)]
          by_cases hi0 : k + i = k
          · rw [if_pos hi0, hn, hi0]
          · rw [if_neg hi0]
end Go.Proofs.YtaibmdjcppeopaaGreatDoor
