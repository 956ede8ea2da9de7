/- Plain arithmetic of a store's two areas: what they tell, and what a Keep makes of them. No program, no conditions. -/
import Derived.Test.YtaibmdjcppeopaaGreatDoorLgS
namespace Go.Proofs.YtaibmdjcppeopaaGreatDoor
open Go

/-- The snapshot of an area: its number (0: there is none) and its text. -/
def snapF (l : List (List UInt8)) : Nat × List UInt8 :=
  match readF l with
  | .ok (x, q, _) => (q, x)
  | .error _ => (0, [])
theorem snapF_ok {l : List (List UInt8)} {x : List UInt8} {q n : Nat} (h : readF l = .ok (x, q, n)) : snapF l = (q, x) := by unfold snapF; rw [h]
theorem snapF_err {l : List (List UInt8)} {k : Nat} (h : readF l = .error k) : snapF l = (0, []) := by unfold snapF; rw [h]
theorem snapF_cases (l : List (List UInt8)) : (∃ x q n, readF l = .ok (x, q, n) ∧ snapF l = (q, x) ∧ 1 ≤ q ∧ q ≤ 2147483647 ∧ x.length ≤ 6000) ∨ (snapF l = (0, []) ∧ ∃ k, readF l = .error k) := by
  cases h : readF l with
  | error k => exact .inr ⟨snapF_err h, k, rfl⟩
  | ok r =>
    obtain ⟨x, q, n⟩ := r
    obtain ⟨h1, h2, h3, _⟩ := readF_is h
    exact .inl ⟨x, q, n, rfl, snapF_ok h, h1, h2, h3⟩
theorem snapF_le (l : List (List UInt8)) : (snapF l).1 ≤ 2147483647 ∧ (snapF l).2.length ≤ 6000 := by
  rcases snapF_cases l with ⟨x, q, n, _, h, h1, h2, h3⟩ | ⟨h, _⟩
  · rw [h]; exact ⟨h2, h3⟩
  · rw [h]; exact ⟨by decide, by decide⟩
theorem snapF_zero {l : List (List UInt8)} (h : (snapF l).1 = 0) : (snapF l).2 = [] := by
  rcases snapF_cases l with ⟨x, q, n, _, e, h1, _⟩ | ⟨e, _⟩
  · rw [e] at h; exact absurd h (by show q ≠ 0; omega)
  · rw [e]

/-- What the two areas of z blocks tell: number, text, the area for the next. -/
def selF (z : Nat) (A B : Nat × List UInt8) : Nat × List UInt8 × Nat :=
  if A.1 < B.1 then (B.1, B.2, 0) else if 0 < A.1 then (A.1, A.2, z) else (A.1, [], 0)
/-- The areas of the disk d tell the state T, whose number is N; the next goes to the area at nx. -/
def Tells7 (d : DS) (z N nx : Nat) (T : List UInt8) : Prop := selF z (snapF (rowsD d 0 z)) (snapF (rowsD d z z)) = (N, T, nx)
theorem tells_exists (d : DS) (z : Nat) : ∃ N nx T, Tells7 d z N nx T := ⟨_, _, _, rfl⟩
theorem Tells7.facts {d : DS} {z N nx : Nat} {T : List UInt8} (h : Tells7 d z N nx T) : (nx = 0 ∨ nx = z) ∧ (snapF (rowsD d 0 z)).1 ≤ N ∧ (snapF (rowsD d z z)).1 ≤ N ∧ N ≤ 2147483647 ∧ T.length ≤ 6000 := by
  have a := snapF_le (rowsD d 0 z)
  have b := snapF_le (rowsD d z z)
  unfold Tells7 selF at h
  split at h
  · simp only [Prod.mk.injEq] at h
    obtain ⟨rfl, rfl, rfl⟩ := h
    exact ⟨.inl rfl, by omega, Nat.le_refl _, b.1, b.2⟩
  · split at h
    · simp only [Prod.mk.injEq] at h
      obtain ⟨rfl, rfl, rfl⟩ := h
      exact ⟨.inr rfl, Nat.le_refl _, by omega, a.1, a.2⟩
    · simp only [Prod.mk.injEq] at h
      obtain ⟨rfl, rfl, rfl⟩ := h
      exact ⟨.inl rfl, Nat.le_refl _, by omega, a.1, by decide⟩
/-- The areas are what they were. -/
theorem Tells7.same {d e : DS} {z N nx : Nat} {T : List UInt8} (h : Tells7 d z N nx T) (hs : ∀ j, j < 2 * z → e.blk j = d.blk j) : Tells7 e z N nx T := by
  unfold Tells7 at h ⊢
  rw [rowsD_same (d := d) (e := e) (a := 0) fun i hi => hs _ (by omega), rowsD_same (d := d) (e := e) (a := z) fun i hi => hs _ (by omega)]
  exact h
/-- The other area holds a new state with a greater number. -/
theorem Tells7.turn {d e : DS} {z N nx N' : Nat} {T X : List UInt8} (h : Tells7 d z N nx T) (hz : 0 < z) (hN : N < N') (hnew : snapF (rowsD e nx z) = (N', X)) (hold : ∀ i, i < z → e.blk (z - nx + i) = d.blk (z - nx + i)) : Tells7 e z N' (z - nx) X := by
  obtain ⟨hx, ha, hb, _, _⟩ := h.facts
  unfold Tells7 selF
  rcases hx with rfl | rfl
  · have ho : snapF (rowsD e z z) = snapF (rowsD d z z) := by rw [rowsD_same (d := d) (e := e) (a := z) fun i hi => by have := hold i hi; rwa [Nat.sub_zero] at this]
    rw [hnew, ho, if_neg (by show ¬ N' < _; omega), if_pos (by show 0 < N'; omega), Nat.sub_zero]
  · have ho : snapF (rowsD e 0 nx) = snapF (rowsD d 0 nx) := by rw [rowsD_same (d := d) (e := e) (a := 0) fun i hi => by have := hold i hi; rwa [Nat.sub_self] at this]
    rw [hnew, ho, if_pos (by show _ < N'; omega), Nat.sub_self]

theorem frame_row {d : DS} {a z q : Nat} {X : List UInt8} (hn : nblk X.length ≤ z) (h : ∀ i, i < z → d.blk (a + i) = if i < nblk X.length then (framesF q X).getD i [] else zeroF) : rowsD d a z = framesF q X ++ List.replicate (z - nblk X.length) zeroF := by
  refine rowsD_eq (by rw [List.length_append, framesF_len, List.length_replicate]; omega) fun i hi => ?_
  rw [h i hi]
  by_cases h1 : i < nblk X.length
  · rw [if_pos h1, List.getElem?_append_left (by rw [framesF_len]; exact h1)]
    exact getD_of (by rw [framesF_len]; exact h1)
  · rw [if_neg h1, List.getElem?_append_right (by rw [framesF_len]; omega), framesF_len, List.getElem?_replicate_of_lt (by omega)]
theorem frame_snap {q z : Nat} {X : List UInt8} (h1 : 1 ≤ q) (h2 : q ≤ 2147483647) (hX : X.length ≤ 6000) : snapF (framesF q X ++ List.replicate z zeroF) = (q, X) := snapF_ok (read_frames q X _ h1 h2 hX)

/-- A Keep that comes through. -/
theorem keep_ok {d : DS} {z m N nx : Nat} {T X : List UInt8} {rs : List (List UInt8)} (hz : 0 < z) (ht : Tells7 d z N nx T) (hlog : LogAt d (2 * z) m N rs) (hX : X.length ≤ 6000) (hn : nblk X.length ≤ z) (hq : N + rs.length + 1 ≤ 2147483647) (ho : d.on = true) (hf : d.fuse < 0) :
    ∃ e1 e2 e, d.wipe nx z = (0, e1) ∧ e1.on = true ∧ e1.n = d.n ∧ e1.wr ≤ d.wr + z ∧ e1.puts nx (framesF (N + rs.length + 1) X) = (0, e2) ∧ e2.on = true ∧ e2.n = d.n ∧ e2.wr ≤ d.wr + 2 * z ∧ e2.wipe (2 * z) m = (0, e) ∧ e.on = true ∧ e.fuse < 0 ∧ e.n = d.n ∧ e.wr ≤ d.wr + 2 * z + m ∧
      Tells7 e z (N + rs.length + 1) (z - nx) X ∧ LogAt e (2 * z) m (N + rs.length + 1) [] ∧ rowsD e nx z = framesF (N + rs.length + 1) X ++ List.replicate (z - nblk X.length) zeroF ∧ (∀ i, i < z → e.blk (z - nx + i) = d.blk (z - nx + i)) := by
  obtain ⟨hx, _, _, _, _⟩ := ht.facts
  have hfit := hlog.fits
  have hxz : nx + z ≤ d.n := by omega
  obtain ⟨e1, a1, a2, a3, a4, a5, a6⟩ := wipe_ok z d nx hxz ho (.inl hf)
  have hf1 : e1.fuse < 0 := by rw [a4]; unfold fuseS; rw [if_pos hf]; exact hf
  have hw1 := (wipe_n (d := d) (i := nx) (m := z) hxz ho).2
  rw [a1] at hw1
  have hl : (framesF (N + rs.length + 1) X).length = nblk X.length := framesF_len _ _
  obtain ⟨e2, b1, b2, b3, b4, b5, b6⟩ := puts_ok (framesF (N + rs.length + 1) X) e1 nx (by rw [a2.n, hl]; omega) frames_64 a3 (.inl hf1)
  have hf2 : e2.fuse < 0 := by rw [b4]; unfold fuseS; rw [if_pos hf1]; exact hf1
  rw [hl] at b5 b6
  obtain ⟨e, c1, c2, c3, c4, c5, c6⟩ := wipe_ok m e2 (2 * z) (by rw [b2.n, a2.n]; exact hfit) b3 (.inl hf2)
  have hf3 : e.fuse < 0 := by rw [c4]; unfold fuseS; rw [if_pos hf2]; exact hf2
  have hw3 := (wipe_n (d := e2) (i := 2 * z) (m := m) (by rw [b2.n, a2.n]; exact hfit) b3).2
  rw [c1] at hw3
  have hw1' : e1.wr ≤ d.wr + z := hw1
  have hw3' : e.wr ≤ e2.wr + m := hw3
  have hrow : rowsD e nx z = framesF (N + rs.length + 1) X ++ List.replicate (z - nblk X.length) zeroF := frame_row hn fun i hi => by
    rw [c6, if_neg (by omega), b6]
    by_cases h1 : i < nblk X.length
    · rw [if_pos (by omega), if_pos h1, show nx + i - nx = i by omega]
    · rw [if_neg (by omega), if_neg h1, a6, if_pos (by omega)]
  have hold : ∀ i, i < z → e.blk (z - nx + i) = d.blk (z - nx + i) := fun i hi => by
    rw [c6, if_neg (by omega), b6, if_neg (by omega), a6, if_neg (by omega)]
  have hn3 : e.n = d.n := c2.n.trans (b2.n.trans a2.n)
  refine ⟨e1, e2, e, a1, a3, a2.n, hw1', b1, b3, b2.n.trans a2.n, by rw [b5]; omega, c1, c3, hf3, hn3, by omega, ht.turn hz (by omega) (by rw [hrow]; exact frame_snap (by omega) hq hX) hold, ⟨by rw [hn3]; exact hfit, by simp, by simpa using hq, by simp [layR], ?_⟩, hrow, hold⟩
  refine rowsD_eq (by simp [layR]) fun i hi => ?_
  rw [c6, if_pos (by omega)]
  simp [layR, hi]
end Go.Proofs.YtaibmdjcppeopaaGreatDoor
