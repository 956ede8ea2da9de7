/- Plain arithmetic of a log's loops: one round of writing, of wiping, of reading. No program, no conditions. -/
import Derived.Test.YtaibmdjcppeopaaGreatDoorLgP
namespace Go.Proofs.YtaibmdjcppeopaaGreatDoor
open Go

theorem write_fst {d : DS} {i : Nat} {s : List UInt8} (hi : i < d.n) (hs : s.length = 64) (ho : d.on = true) : (d.write (i : Int) s).1 = 0 ∧ (d.write (i : Int) s).2 = d.wrote i s ∧ d.fuse ≠ 0 ∨ (d.write (i : Int) s).1 = 14 ∧ (d.write (i : Int) s).2 = d.torn1 i s ∧ d.fuse = 0 := by
  by_cases hf : d.fuse = 0
  · right; rw [write_cut hi hs ho hf]; exact ⟨rfl, rfl, hf⟩
  · left; rw [write_ok hi hs ho hf]; exact ⟨rfl, rfl, hf⟩
theorem puts_cons (d : DS) (i : Nat) (s : List UInt8) (l : List (List UInt8)) : d.puts i (s :: l) = if (d.write (i : Int) s).1 = 0 then (d.write (i : Int) s).2.puts (i + 1) l else d.write (i : Int) s := by
  rw [DS.puts]
  obtain ⟨r, e⟩ := d.write (i : Int) s
  cases r with
  | zero => rfl
  | succ n => rfl
theorem wipe_succ (d : DS) (i m : Nat) : d.wipe i (m + 1) = if d.blk i = zeroF then d.wipe (i + 1) m else if (d.write (i : Int) zeroF).1 = 0 then (d.write (i : Int) zeroF).2.wipe (i + 1) m else d.write (i : Int) zeroF := by
  rw [DS.wipe]
  split
  · rfl
  · obtain ⟨r, e⟩ := d.write (i : Int) zeroF
    cases r with
    | zero => rfl
    | succ n => rfl

/-- j blocks were written, and the disk is e now. -/
structure PutAt (d : DS) (i : Nat) (L : List (List UInt8)) (j : Nat) (e : DS) : Prop where
  eq : d.puts i L = e.puts (i + j) (L.drop j)
  on : e.on = true
  like : d.Like e
  wr : e.wr = d.wr + j
theorem PutAt.start {d : DS} (i : Nat) (L : List (List UInt8)) (ho : d.on = true) : PutAt d i L 0 d := ⟨rfl, ho, DS.Like.refl d, rfl⟩
theorem PutAt.step {d e : DS} {i j : Nat} {L : List (List UInt8)} {s : List UInt8} (h : PutAt d i L j e) (hs : L[j]? = some s) (h64 : s.length = 64) (hi : i + j < d.n) :
    ((e.write ((i + j : Nat) : Int) s).1 = 0 ∧ PutAt d i L (j + 1) (e.write ((i + j : Nat) : Int) s).2) ∨ ((e.write ((i + j : Nat) : Int) s).1 = 14 ∧ d.puts i L = e.write ((i + j : Nat) : Int) s) := by
  have hd : L.drop j = s :: L.drop (j + 1) := by
    obtain ⟨h1, h2⟩ := List.getElem?_eq_some_iff.1 hs
    rw [List.drop_eq_getElem_cons h1, h2]
  have hE : i + j < e.n := by rw [h.like.n]; exact hi
  have heq := h.eq
  rw [hd, puts_cons] at heq
  rcases write_fst hE h64 h.on with ⟨h1, h2, hf⟩ | ⟨h1, h2, hf⟩
  · left
    rw [if_pos h1] at heq
    refine ⟨h1, by rw [heq, Nat.add_assoc], by rw [h2]; exact h.on, h.like.trans (by rw [h2]; exact wrote_like hE h64), by rw [h2]; show e.wr + 1 = _; rw [h.wr]; omega⟩
  · right
    rw [if_neg (by rw [h1]; decide)] at heq
    exact ⟨h1, heq⟩
theorem PutAt.fin {d e : DS} {i j : Nat} {L : List (List UInt8)} (h : PutAt d i L j e) (hj : L.length ≤ j) : d.puts i L = (0, e) := by
  rw [h.eq, List.drop_of_length_le hj]; rfl

/-- j blocks were wiped, and the disk is e now. -/
structure WipeAt (d : DS) (i m : Nat) (j : Nat) (e : DS) : Prop where
  eq : d.wipe i m = e.wipe (i + j) (m - j)
  on : e.on = true
  like : d.Like e
  wr : e.wr ≤ d.wr + j
theorem WipeAt.start {d : DS} (i m : Nat) (ho : d.on = true) : WipeAt d i m 0 d := ⟨rfl, ho, DS.Like.refl d, Nat.le_refl _⟩
theorem WipeAt.zero {d e : DS} {i j m : Nat} (h : WipeAt d i m j e) (hj : j < m) (hz : e.blk (i + j) = zeroF) : WipeAt d i m (j + 1) e := by
  have heq := h.eq
  rw [show m - j = (m - (j + 1)) + 1 by omega, wipe_succ, if_pos hz] at heq
  exact ⟨heq, h.on, h.like, by have := h.wr; omega⟩
theorem WipeAt.step {d e : DS} {i j m : Nat} (h : WipeAt d i m j e) (hj : j < m) (hi : i + m ≤ d.n) (hz : e.blk (i + j) ≠ zeroF) :
    ((e.write ((i + j : Nat) : Int) zeroF).1 = 0 ∧ WipeAt d i m (j + 1) (e.write ((i + j : Nat) : Int) zeroF).2) ∨ ((e.write ((i + j : Nat) : Int) zeroF).1 = 14 ∧ d.wipe i m = e.write ((i + j : Nat) : Int) zeroF) := by
  have hE : i + j < e.n := by rw [h.like.n]; omega
  have heq := h.eq
  rw [show m - j = (m - (j + 1)) + 1 by omega, wipe_succ, if_neg hz] at heq
  rcases write_fst hE (s := zeroF) rfl h.on with ⟨h1, h2, hf⟩ | ⟨h1, h2, hf⟩
  · left
    rw [if_pos h1] at heq
    refine ⟨h1, by rw [heq, Nat.add_assoc], by rw [h2]; exact h.on, h.like.trans (by rw [h2]; exact wrote_like hE rfl), by rw [h2]; show e.wr + 1 ≤ _; have := h.wr; omega⟩
  · right
    rw [if_neg (by rw [h1]; decide)] at heq
    exact ⟨h1, heq⟩
theorem WipeAt.fin {d e : DS} {i j m : Nat} (h : WipeAt d i m j e) (hj : m ≤ j) : d.wipe i m = (0, e) := by
  rw [h.eq, show m - j = 0 by omega]; rfl
theorem torn_n {d : DS} {i : Nat} {s : List UInt8} (hi : i < d.n) (hs : s.length = 64) : (d.torn1 i s).n = d.n := (torn_like hi hs).n
/-- However a wiping ends. -/
theorem wipe_n {d : DS} {m i : Nat} (hi : i + m ≤ d.n) (ho : d.on = true) : (d.wipe i m).2.n = d.n ∧ (d.wipe i m).2.wr ≤ d.wr + m := by
  induction m generalizing d i with
  | zero => exact ⟨rfl, Nat.le_refl _⟩
  | succ m ih =>
    rw [wipe_succ]
    split
    · obtain ⟨h1, h2⟩ := ih (d := d) (i := i + 1) (by omega) ho; exact ⟨h1, by omega⟩
    · rcases write_fst (d := d) (i := i) (s := zeroF) (by omega) rfl ho with ⟨h1, h2, hf⟩ | ⟨h1, h2, hf⟩
      · rw [if_pos h1, h2]
        have hn := (wrote_like (d := d) (i := i) (s := zeroF) (by omega) rfl).n
        obtain ⟨h3, h4⟩ := ih (d := d.wrote i zeroF) (i := i + 1) (by omega) ho
        exact ⟨h3.trans hn, by have e : (d.wrote (i : Int) zeroF).wr = d.wr + 1 := rfl
                               omega⟩
      · rw [if_neg (by rw [h1]; decide), h2]
        exact ⟨torn_n (by omega) rfl, by show d.wr ≤ _; omega⟩
theorem puts_n {d : DS} {l : List (List UInt8)} {i : Nat} (hi : i + l.length ≤ d.n) (hs : ∀ s ∈ l, s.length = 64) (ho : d.on = true) : (d.puts i l).2.n = d.n ∧ (d.puts i l).2.wr ≤ d.wr + l.length := by
  induction l generalizing d i with
  | nil => exact ⟨rfl, Nat.le_refl _⟩
  | cons s l ih =>
    rw [List.length_cons] at hi ⊢
    rw [puts_cons]
    have h64 := hs s (by simp)
    rcases write_fst (d := d) (i := i) (s := s) (by omega) h64 ho with ⟨h1, h2, hf⟩ | ⟨h1, h2, hf⟩
    · rw [if_pos h1, h2]
      have hn := (wrote_like (d := d) (i := i) (s := s) (by omega) h64).n
      obtain ⟨h3, h4⟩ := ih (d := d.wrote i s) (i := i + 1) (by omega) (fun x hx => hs x (by simp [hx])) ho
      exact ⟨h3.trans hn, by have e : (d.wrote (i : Int) s).wr = d.wr + 1 := rfl
                             omega⟩
    · rw [if_neg (by rw [h1]; decide), h2]
      exact ⟨torn_n (by omega) h64, by show d.wr ≤ _; omega⟩
theorem puts_fst {d : DS} {l : List (List UInt8)} {i : Nat} (hi : i + l.length ≤ d.n) (hs : ∀ s ∈ l, s.length = 64) (ho : d.on = true) : (d.puts i l).1 = 0 ∨ (d.puts i l).1 = 14 := by
  induction l generalizing d i with
  | nil => exact .inl rfl
  | cons s l ih =>
    rw [List.length_cons] at hi
    rw [puts_cons]
    have h64 := hs s (by simp)
    rcases write_fst (d := d) (i := i) (s := s) (by omega) h64 ho with ⟨h1, h2, hf⟩ | ⟨h1, h2, hf⟩
    · rw [if_pos h1, h2]
      have hn := (wrote_like (d := d) (i := i) (s := s) (by omega) h64).n
      exact ih (d := d.wrote i s) (i := i + 1) (by omega) (fun x hx => hs x (by simp [hx])) ho
    · rw [if_neg (by rw [h1]; decide)]; exact .inr h1
/-- What the reading of a log's blocks found so far: rs; and what lies behind them. -/
structure LoadAt (l : List (List UInt8)) (b : Nat) (rs rest : List (List UInt8)) : Prop where
  small : ∀ d ∈ rs, d.length ≤ 6000
  bound : b + rs.length ≤ 2147483647
  laid : l.take (layR b rs).length = layR b rs
  rest : rest = l.drop (layR b rs).length
  le : (layR b rs).length ≤ l.length
theorem LoadAt.start {l : List (List UInt8)} {b : Nat} (hb : b ≤ 2147483647) : LoadAt l b [] l := ⟨by simp, by simpa using hb, by simp [layR], by simp [layR], by simp [layR]⟩
theorem LoadAt.step {l rest : List (List UInt8)} {b n : Nat} {rs : List (List UInt8)} {x : List UInt8} (h : LoadAt l b rs rest) (hn : nextF rest (b + rs.length) = some (x, n)) :
    LoadAt l b (rs ++ [x]) (rest.drop n) ∧ 1 ≤ n ∧ n ≤ rest.length ∧ (layR b (rs ++ [x])).length = (layR b rs).length + n ∧ b + rs.length + 1 ≤ 2147483647 ∧ n ≤ 108 := by
  rw [h.rest] at hn ⊢
  obtain ⟨h1, h2, h3, h4, h5, h6⟩ := lay_step h.laid hn
  have hle : (layR b (rs ++ [x])).length ≤ l.length := by
    have := congrArg List.length h1
    rw [List.length_take] at this; omega
  refine ⟨⟨fun d hd => ?_, h4, h1, by rw [List.drop_drop, h2], hle⟩, h5, by rw [List.length_drop]; omega, h2, by rw [List.length_append, List.length_singleton] at h4; omega, by rw [h6]; exact (nblk_bd h3).2⟩
  rcases List.mem_append.1 hd with hd | hd
  · exact h.small d hd
  · rw [List.mem_singleton.1 hd]; exact h3
theorem LoadAt.fin {l rest : List (List UInt8)} {b : Nat} {rs : List (List UInt8)} (h : LoadAt l b rs rest) (hn : nextF rest (b + rs.length) = none) : Follows l b rs := ⟨h.small, h.bound, h.laid, by rw [← h.rest]; exact hn⟩
end Go.Proofs.YtaibmdjcppeopaaGreatDoor
