/- The walk of the law LogResets: whatever the arguments, it returns true. Condition: the sentinels lie as the program's text lays them. -/
import Derived.Test.YtmfchjbpbfkgiaaGreatDoorLgF
namespace Go.Proofs.YtmfchjbpbfkgiaaGreatDoor
open Go Go.RowKit

theorem dirty_zero {d : DS} : ∀ m a, (∀ i, i < m → d.blk (a + i) = zeroF) → d.dirty a m = 0
  | 0, _, _ => rfl
  | m + 1, a, h => by
    have h0 := h 0 (by omega)
    rw [Nat.add_zero] at h0
    rw [DS.dirty, if_pos h0, dirty_zero m (a + 1) fun i hi => by
      have := h (i + 1) (by omega)
      rwa [show a + (i + 1) = a + 1 + i by omega] at this]
theorem empty_follows {d : DS} {a m b c : Nat} (h : LogAt d a m b []) (hc : c ≤ 2147483647) : Follows (rowsD d a m) c [] := by
  have hr := h.rows
  simp only [layR, List.length_nil, Nat.sub_zero, List.nil_append] at hr
  rw [hr]
  have := follows_zeros (b := c) (m := m) (rs := []) (by simp) (by simpa using hc)
  simpa [layR] using this
theorem empty_wipe {d : DS} {a m b : Nat} (h : LogAt d a m b []) (ho : d.on = true) (hf : d.fuse < 0 ∨ 0 ≤ d.fuse) : ∃ e, d.wipe a m = (0, e) := by
  have hz : d.dirty a m = 0 := dirty_zero m a fun i hi => h.up (by simp [layR]) hi
  obtain ⟨e, he, _⟩ := wipe_ok m d a h.fits ho (by rw [hz]; omega)
  exact ⟨e, he⟩
theorem rows_snoc (zs : List ByteArray) (j : Nat) (z : ByteArray) (h : zs[j]? = some z) : rows (zs.take (j + 1)) = rows (zs.take j) ++ [z.data.toList] := by
  rw [List.take_add_one, h]; simp [rows]
theorem layR_small {b : Nat} : ∀ {rs : List (List UInt8)}, (∀ x ∈ rs, x.length ≤ 200) → (layR b rs).length ≤ 4 * rs.length
  | [], _ => by simp [layR]
  | x :: r, h => by
    have h1 := layR_small (b := b + 1) (rs := r) fun y hy => h y (by simp [hy])
    have h2 := h x (by simp)
    rw [layR, List.length_append, framesF_len, List.length_cons]
    have : nblk x.length ≤ 4 := by unfold nblk; omega
    omega

/-- What a round of the loop begins with. -/
def QuRel (w : World) (q p g cap : Nat) (zs : List ByteArray) (i : Value) (wr : World) : Prop :=
  ∃ (j : Nat) (v : Value) (d : DS), i = .int .i64 (j : Int) ∧ j ≤ zs.length ∧ (∀ x ∈ rows (zs.take j), x.length ≤ 200) ∧ Live wr w.heap.size q p g cap 0 60 3 v (rows (zs.take j)) (100 + 108 * j) d ∧ Below w.heap.size w wr
theorem QuRel.drew {w wr : World} {q p g cap : Nat} {zs : List ByteArray} {i : Value} (h : QuRel w q p g cap zs i wr) : QuRel w q p g cap zs i wr.drew := by
  obtain ⟨j, v, d, h1, h2, h3, h4, h5⟩ := h
  exact ⟨j, v, d, h1, h2, h3, h4.same ⟨rfl, rfl, rfl, rfl, fun _ => rfl⟩, h5.drew⟩

end Go.Proofs.YtmfchjbpbfkgiaaGreatDoor
