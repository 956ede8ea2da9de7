/- Plain arithmetic of a log's writing: blocks written in ascending order, blocks wiped, whatever the fuse. No program, no conditions. -/
import Derived.Test.YtaibmdjcppeopaaGreatDoorLgM
import Derived.Test.YtaibmdjcppeopaaGreatDoorBlkM
import Derived.Test.YtaibmdjcppeopaaGreatDoorBlkB
namespace Go.Proofs.YtaibmdjcppeopaaGreatDoor
open Go

/-- What a write makes of the fuse. -/
def fuseS (f : Int) (m : Nat) : Int := if f < 0 then f else f - m
theorem fuseS_add {f : Int} {a b : Nat} (h : f < 0 ∨ ((a + b : Nat) : Int) ≤ f) : fuseS (fuseS f a) b = fuseS f (a + b) := by
  unfold fuseS
  by_cases h0 : f < 0
  · rw [if_pos h0, if_pos h0, if_pos h0]
  · rw [if_neg h0, if_neg (by omega), if_neg h0]; omega
/-- The disk e is the disk d but for its blocks, its fuse, its power and its counter. -/
structure DS.Like (d e : DS) : Prop where
  len : e.bs.length = d.bs.length
  torn : e.torn = d.torn
theorem DS.Like.refl (d : DS) : d.Like d := ⟨rfl, rfl⟩
theorem DS.Like.trans {d e f : DS} (h : d.Like e) (k : e.Like f) : d.Like f := ⟨k.len.trans h.len, k.torn.trans h.torn⟩
theorem DS.Like.n {d e : DS} (h : d.Like e) : e.n = d.n := by unfold DS.n; rw [h.len]
theorem wrote_like {d : DS} {i : Nat} {s : List UInt8} (hi : i < d.n) (hs : s.length = 64) : d.Like (d.wrote i s) :=
  ⟨len_splice (by unfold DS.n at hi; rw [hs]; show 64 * ((i : Int).toNat) + 64 ≤ _; omega), rfl⟩
theorem torn_like {d : DS} {i : Nat} {s : List UInt8} (hi : i < d.n) (hs : s.length = 64) : d.Like (d.torn1 i s) :=
  ⟨len_splice (by unfold DS.n at hi; rw [List.length_take, hs]; show 64 * ((i : Int).toNat) + _ ≤ _; omega), rfl⟩
theorem has_nat {d : DS} {i : Nat} (hi : i < d.n) : d.has (i : Int) = true := DS.has_iff.2 (by omega)
theorem write_ok {d : DS} {i : Nat} {s : List UInt8} (hi : i < d.n) (hs : s.length = 64) (ho : d.on = true) (hf : d.fuse ≠ 0) : d.write i s = (0, d.wrote i s) := by
  unfold DS.write; rw [has_nat hi, decide_eq_true hs, ho]; exact if_neg hf
theorem write_cut {d : DS} {i : Nat} {s : List UInt8} (hi : i < d.n) (hs : s.length = 64) (ho : d.on = true) (hf : d.fuse = 0) : d.write i s = (14, d.torn1 i s) := by
  unfold DS.write; rw [has_nat hi, decide_eq_true hs, ho]; exact if_pos hf
theorem wrote_blk {d : DS} {i : Nat} {s : List UInt8} (hi : i < d.n) (hs : s.length = 64) (j : Nat) : (d.wrote i s).blk j = if j = i then s else d.blk j := by
  have ha : 64 * i + 64 ≤ d.bs.length := by unfold DS.n at hi; omega
  by_cases h : j = i
  · subst h; rw [if_pos rfl]; exact blk_all (d := d) rfl hs ha
  · rw [if_neg h]; exact blk_other (d := d) (a := i) (cs := s) rfl (by omega) ha h
theorem torn_blk {d : DS} {i : Nat} {s : List UInt8} (hi : i < d.n) (hs : s.length = 64) (ht : d.torn ≤ 64) (j : Nat) : (d.torn1 i s).blk j = if j = i then s.take d.torn ++ (d.blk i).drop d.torn else d.blk j := by
  have ha : 64 * i + 64 ≤ d.bs.length := by unfold DS.n at hi; omega
  have hl : (s.take d.torn).length = d.torn := by rw [List.length_take]; omega
  by_cases h : j = i
  · subst h
    rw [if_pos rfl]
    have := blk_same (d := d) (d' := d.torn1 j s) (a := j) (cs := s.take d.torn) rfl (by omega) ha
    rw [hl] at this; exact this
  · rw [if_neg h]; exact blk_other (d := d) (d' := d.torn1 i s) (a := i) (cs := s.take d.torn) rfl (by omega) ha h

/-- Blocks written in ascending order, until the first that cannot be. -/
def DS.puts : DS → Nat → List (List UInt8) → Nat × DS
  | d, _, [] => (0, d)
  | d, i, s :: l => match d.write (i : Int) s with
    | (0, e) => e.puts (i + 1) l
    | r => r
/-- All are written. -/
theorem puts_ok : ∀ (l : List (List UInt8)) (d : DS) (i : Nat), i + l.length ≤ d.n → (∀ s ∈ l, s.length = 64) → d.on = true → d.fuse < 0 ∨ (l.length : Int) ≤ d.fuse →
    ∃ e, d.puts i l = (0, e) ∧ d.Like e ∧ e.on = true ∧ e.fuse = fuseS d.fuse l.length ∧ e.wr = d.wr + l.length ∧ ∀ j, e.blk j = if i ≤ j ∧ j < i + l.length then l.getD (j - i) [] else d.blk j
  | [], d, i, _, _, ho, _ => ⟨d, rfl, DS.Like.refl d, ho, by unfold fuseS; simp, rfl, fun j => by rw [if_neg (by simp only [List.length_nil]; omega)]⟩
  | s :: l, d, i, hi, hs, ho, hf => by
    rw [List.length_cons] at hi hf
    have hs1 : s.length = 64 := hs s (by simp)
    have hw := write_ok (i := i) (s := s) (by omega) hs1 ho (by omega)
    have hl := wrote_like (d := d) (i := i) (s := s) (by omega) hs1
    have hfu : (d.wrote i s).fuse = fuseS d.fuse 1 := by
      show (if 0 < d.fuse then d.fuse - 1 else d.fuse) = _
      unfold fuseS; split <;> split <;> omega
    obtain ⟨e, h1, h2, h3, h4, h5, h6⟩ := puts_ok l (d.wrote i s) (i + 1) (by rw [hl.n]; omega) (fun x hx => hs x (by simp [hx])) ho (by rw [hfu]; unfold fuseS; split <;> omega)
    refine ⟨e, by rw [DS.puts, hw]; exact h1, hl.trans h2, h3, by rw [h4, hfu, fuseS_add (by omega), List.length_cons, Nat.add_comm], by rw [h5, List.length_cons]; show d.wr + 1 + l.length = _; omega, fun j => ?_⟩
    rw [h6 j, wrote_blk (by omega) hs1, List.length_cons]
    by_cases hj : j = i
    · subst hj; rw [if_neg (by omega), if_pos rfl, if_pos (by omega), Nat.sub_self]; rfl
    · by_cases hj2 : i + 1 ≤ j ∧ j < i + 1 + l.length
      · rw [if_pos hj2, if_pos (by omega), show j - i = (j - (i + 1)) + 1 by omega]; rfl
      · rw [if_neg hj2, if_neg hj, if_neg (by omega)]
/-- The power goes at the write of block k. -/
theorem puts_cut : ∀ (l : List (List UInt8)) (d : DS) (i k : Nat), i + l.length ≤ d.n → (∀ s ∈ l, s.length = 64) → d.on = true → d.torn ≤ 64 → d.fuse = k → k < l.length →
    ∃ e, d.puts i l = (14, e) ∧ d.Like e ∧ e.on = false ∧ e.wr = d.wr + k ∧ ∀ j, e.blk j = if i ≤ j ∧ j < i + k then l.getD (j - i) [] else if j = i + k then (l.getD k []).take d.torn ++ (d.blk j).drop d.torn else d.blk j
  | [], d, i, k, _, _, _, _, _, hk => absurd hk (by simp)
  | s :: l, d, i, 0, hi, hs, ho, ht, hf, _ => by
    rw [List.length_cons] at hi
    have hs1 : s.length = 64 := hs s (by simp)
    have hw := write_cut (i := i) (s := s) (by omega) hs1 ho (by omega)
    refine ⟨d.torn1 i s, by rw [DS.puts, hw]; rfl, torn_like (by omega) hs1, rfl, rfl, fun j => ?_⟩
    rw [torn_blk (by omega) hs1 ht, if_neg (c := i ≤ j ∧ j < i + 0) (by omega), Nat.add_zero]
    by_cases hj : j = i
    · subst hj; rw [if_pos rfl, if_pos rfl]; rfl
    · rw [if_neg hj, if_neg hj]
  | s :: l, d, i, k + 1, hi, hs, ho, ht, hf, hk => by
    rw [List.length_cons] at hi hk
    have hs1 : s.length = 64 := hs s (by simp)
    have hw := write_ok (i := i) (s := s) (by omega) hs1 ho (by omega)
    have hl := wrote_like (d := d) (i := i) (s := s) (by omega) hs1
    have hfu : (d.wrote i s).fuse = (k : Int) := by
      show (if 0 < d.fuse then d.fuse - 1 else d.fuse) = _
      split <;> omega
    obtain ⟨e, h1, h2, h3, h4, h5⟩ := puts_cut l (d.wrote i s) (i + 1) k (by rw [hl.n]; omega) (fun x hx => hs x (by simp [hx])) ho ht hfu (by omega)
    refine ⟨e, by rw [DS.puts, hw]; exact h1, hl.trans h2, h3, by rw [h4]; show d.wr + 1 + k = _; omega, fun j => ?_⟩
    rw [h5 j, wrote_blk (by omega) hs1]
    show _ = if i ≤ j ∧ j < i + (k + 1) then (s :: l).getD (j - i) [] else if j = i + (k + 1) then (l.getD k []).take d.torn ++ (d.blk j).drop d.torn else d.blk j
    by_cases hj : j = i
    · subst hj; rw [if_neg (by omega), if_neg (by omega), if_pos rfl, if_pos (by omega), Nat.sub_self]; rfl
    · by_cases hj2 : i + 1 ≤ j ∧ j < i + 1 + k
      · rw [if_pos hj2, if_pos (by omega), show j - i = (j - (i + 1)) + 1 by omega]; rfl
      · by_cases hj3 : j = i + (k + 1)
        · rw [if_neg hj2, if_pos (c := j = i + 1 + k) (by omega), if_neg (c := i ≤ j ∧ j < i + (k + 1)) (by omega), if_pos hj3, if_neg hj]; rfl
        · rw [if_neg hj2, if_neg (c := j = i + 1 + k) (by omega), if_neg hj, if_neg (c := i ≤ j ∧ j < i + (k + 1)) (by omega), if_neg hj3]

/-- Blocks wiped in ascending order, those that are zero left alone, until the first that cannot be. -/
def DS.wipe : DS → Nat → Nat → Nat × DS
  | d, _, 0 => (0, d)
  | d, i, m + 1 => if d.blk i = zeroF then d.wipe (i + 1) m else match d.write (i : Int) zeroF with
    | (0, e) => e.wipe (i + 1) m
    | r => r
/-- How many of the blocks are not zero. -/
def DS.dirty (d : DS) : Nat → Nat → Nat
  | _, 0 => 0
  | i, m + 1 => (if d.blk i = zeroF then 0 else 1) + d.dirty (i + 1) m
theorem dirty_same {d e : DS} : ∀ m i, (∀ j, i ≤ j → e.blk j = d.blk j) → e.dirty i m = d.dirty i m
  | 0, _, _ => rfl
  | m + 1, i, h => by rw [DS.dirty, DS.dirty, h i (Nat.le_refl _), dirty_same m (i + 1) (fun j hj => h j (by omega))]
/-- All are wiped. -/
theorem wipe_ok : ∀ (m : Nat) (d : DS) (i : Nat), i + m ≤ d.n → d.on = true → d.fuse < 0 ∨ (d.dirty i m : Int) ≤ d.fuse →
    ∃ e, d.wipe i m = (0, e) ∧ d.Like e ∧ e.on = true ∧ e.fuse = fuseS d.fuse (d.dirty i m) ∧ e.wr = d.wr + d.dirty i m ∧ ∀ j, e.blk j = if i ≤ j ∧ j < i + m then zeroF else d.blk j
  | 0, d, i, _, ho, _ => ⟨d, rfl, DS.Like.refl d, ho, by unfold fuseS DS.dirty; simp, rfl, fun j => by rw [if_neg (by omega)]⟩
  | m + 1, d, i, hi, ho, hf => by
    rw [DS.dirty] at hf
    by_cases hz : d.blk i = zeroF
    · rw [if_pos hz, Nat.zero_add] at hf
      obtain ⟨e, h1, h2, h3, h4, h5, h6⟩ := wipe_ok m d (i + 1) (by omega) ho hf
      refine ⟨e, by rw [DS.wipe, if_pos hz]; exact h1, h2, h3, by rw [h4, DS.dirty, if_pos hz, Nat.zero_add], by rw [h5, DS.dirty, if_pos hz, Nat.zero_add], fun j => ?_⟩
      rw [h6 j]
      by_cases hj : j = i
      · subst hj; rw [if_neg (by omega), if_pos (by omega), hz]
      · by_cases hj2 : i + 1 ≤ j ∧ j < i + 1 + m
        · rw [if_pos hj2, if_pos (by omega)]
        · rw [if_neg hj2, if_neg (by omega)]
    · rw [if_neg hz] at hf
      have hw := write_ok (i := i) (s := zeroF) (by omega) rfl ho (by omega)
      have hl := wrote_like (d := d) (i := i) (s := zeroF) (by omega) rfl
      have hfu : (d.wrote i zeroF).fuse = fuseS d.fuse 1 := by
        show (if 0 < d.fuse then d.fuse - 1 else d.fuse) = _
        unfold fuseS; split <;> split <;> omega
      have hdi : (d.wrote i zeroF).dirty (i + 1) m = d.dirty (i + 1) m := dirty_same m (i + 1) fun j hj => by rw [wrote_blk (by omega) rfl, if_neg (by omega)]
      obtain ⟨e, h1, h2, h3, h4, h5, h6⟩ := wipe_ok m (d.wrote i zeroF) (i + 1) (by rw [hl.n]; omega) ho (by rw [hfu, hdi]; unfold fuseS; split <;> omega)
      refine ⟨e, by rw [DS.wipe, if_neg hz, hw]; exact h1, hl.trans h2, h3, by rw [h4, hfu, hdi, DS.dirty, if_neg hz, fuseS_add hf], by rw [h5, hdi, DS.dirty, if_neg hz]; show d.wr + 1 + _ = _; omega, fun j => ?_⟩
      rw [h6 j, wrote_blk (by omega) rfl]
      by_cases hj : j = i
      · subst hj; rw [if_neg (by omega), if_pos rfl, if_pos (by omega)]
      · by_cases hj2 : i + 1 ≤ j ∧ j < i + 1 + m
        · rw [if_pos hj2, if_pos (by omega)]
        · rw [if_neg hj2, if_neg hj, if_neg (by omega)]
/-- The power goes while wiping: all blocks below the place k are wiped, the block k is torn, the others are as they were. -/
theorem wipe_cut : ∀ (m : Nat) (d : DS) (i f : Nat), i + m ≤ d.n → d.on = true → d.torn ≤ 64 → d.fuse = f → f < d.dirty i m →
    ∃ e k, d.wipe i m = (14, e) ∧ d.Like e ∧ e.on = false ∧ e.wr = d.wr + f ∧ i ≤ k ∧ k < i + m ∧ d.blk k ≠ zeroF ∧ f = d.dirty i (k - i) ∧ ∀ j, e.blk j = if i ≤ j ∧ j < k then zeroF else if j = k then List.replicate d.torn 0 ++ (d.blk k).drop d.torn else d.blk j
  | 0, d, i, f, _, _, _, _, h => absurd h (by unfold DS.dirty; omega)
  | m + 1, d, i, f, hi, ho, ht, hf, hd => by
    rw [DS.dirty] at hd
    by_cases hz : d.blk i = zeroF
    · rw [if_pos hz, Nat.zero_add] at hd
      obtain ⟨e, k, h1, h2, h3, h4, h5, h6, h7, h8, h9⟩ := wipe_cut m d (i + 1) f (by omega) ho ht hf hd
      refine ⟨e, k, by rw [DS.wipe, if_pos hz]; exact h1, h2, h3, h4, by omega, by omega, h7, ?_, fun j => ?_⟩
      · rw [show k - i = (k - (i + 1)) + 1 by omega, DS.dirty, if_pos hz, Nat.zero_add]; exact h8
      · rw [h9 j]
        by_cases hj : j = i
        · subst hj; rw [if_neg (by omega), if_neg (by omega), if_pos (by omega), hz]
        · by_cases hj2 : i + 1 ≤ j ∧ j < k
          · rw [if_pos hj2, if_pos (by omega)]
          · rw [if_neg hj2, if_neg (c := i ≤ j ∧ j < k) (by omega)]
    · rw [if_neg hz] at hd
      cases f with
      | zero =>
        have hw := write_cut (i := i) (s := zeroF) (by omega) rfl ho (by omega)
        refine ⟨d.torn1 i zeroF, i, by rw [DS.wipe, if_neg hz, hw]; rfl, torn_like (by omega) rfl, rfl, rfl, Nat.le_refl _, by omega, hz, by rw [Nat.sub_self]; rfl, fun j => ?_⟩
        rw [torn_blk (by omega) rfl ht, if_neg (c := i ≤ j ∧ j < i) (by omega)]
        have : (zeroF.take d.torn : List UInt8) = List.replicate d.torn 0 := by unfold zeroF; rw [List.take_replicate, Nat.min_eq_left ht]
        rw [this]
      | succ f =>
        have hw := write_ok (i := i) (s := zeroF) (by omega) rfl ho (by omega)
        have hl := wrote_like (d := d) (i := i) (s := zeroF) (by omega) rfl
        have hfu : (d.wrote i zeroF).fuse = (f : Int) := by
          show (if 0 < d.fuse then d.fuse - 1 else d.fuse) = _
          split <;> omega
        have hsame : ∀ j, i + 1 ≤ j → (d.wrote i zeroF).blk j = d.blk j := fun j hj => by rw [wrote_blk (by omega) rfl, if_neg (by omega)]
        have hdi : (d.wrote i zeroF).dirty (i + 1) m = d.dirty (i + 1) m := dirty_same m (i + 1) hsame
        obtain ⟨e, k, h1, h2, h3, h4, h5, h6, h7, h8, h9⟩ := wipe_cut m (d.wrote i zeroF) (i + 1) f (by rw [hl.n]; omega) ho ht hfu (by rw [hdi]; omega)
        rw [hsame k h5] at h7
        have h8' : f = d.dirty (i + 1) (k - (i + 1)) := h8.trans (dirty_same _ (i + 1) hsame)
        refine ⟨e, k, by rw [DS.wipe, if_neg hz, hw]; exact h1, hl.trans h2, h3, by rw [h4]; show d.wr + 1 + f = _; omega, by omega, by omega, h7, ?_, fun j => ?_⟩
        · rw [show k - i = (k - (i + 1)) + 1 by omega, DS.dirty, if_neg hz]; omega
        · rw [h9 j]
          by_cases hj : j = i
          · subst hj; rw [if_neg (by omega), if_neg (by omega), wrote_blk (by omega) rfl, if_pos rfl, if_pos (by omega)]
          · by_cases hj2 : i + 1 ≤ j ∧ j < k
            · rw [if_pos hj2, if_pos (by omega)]
            · rw [if_neg hj2, if_neg (c := i ≤ j ∧ j < k) (by omega)]
              by_cases hj3 : j = k
              · subst hj3; rw [if_pos rfl, if_pos rfl, hsame j h5]; rfl
              · rw [if_neg hj3, if_neg hj3, wrote_blk (by omega) rfl, if_neg hj]
end Go.Proofs.YtaibmdjcppeopaaGreatDoor
