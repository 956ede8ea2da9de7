/- The disk beside the reference's: each operation makes the same of both. Conditions: a disk has at most 12 blocks. -/
import Derived.Test.YthlpfedcmiiibaaDoorBlkRW
namespace Go.Proofs.YthlpfedcmiiibaaDoor
open Go Go.RowKit

def DS.blks (d : DS) : List (List UInt8) := chunks d.bs d.n
def rsOf (d : DS) : RS := ⟨d.blks, d.on, max d.fuse (-1), d.torn, d.wr⟩
theorem blks_len (d : DS) : d.blks.length = d.n := chunks_len _ _
theorem blks_get (d : DS) (j : Nat) (h : j < d.n) : d.blks[j]? = some (d.blk j) := by simp [DS.blks, chunks, DS.blk, h]
theorem blks_set {d d' : DS} {a : Nat} {x : List UInt8} (hn : d'.n = d.n) (h : ∀ j, j ≠ a → d'.blk j = d.blk j) (hx : d'.blk a = x) : d'.blks = d.blks.set a x := by
  apply List.ext_getElem?
  intro j
  rw [List.getElem?_set]
  by_cases hj : j < d.n
  · rw [blks_get d' j (by omega)]
    by_cases e : a = j
    · subst e; rw [if_pos rfl, if_pos (by rw [blks_len]; exact hj), hx]
    · rw [if_neg e, blks_get d j hj, h j (fun h => e h.symm)]
  · have h1 : d'.blks[j]? = none := List.getElem?_eq_none (by rw [blks_len]; omega)
    have h2 : d.blks[j]? = none := List.getElem?_eq_none (by rw [blks_len]; omega)
    rw [h1, h2]
    split
    · rw [if_neg (by rw [blks_len]; omega)]
    · rfl
theorem blks_same {d d' : DS} (h : d'.bs = d.bs) : d'.blks = d.blks := by unfold DS.blks DS.n; rw [h]
theorem n_same {d d' : DS} (h : d'.bs = d.bs) : d'.n = d.n := by unfold DS.n; rw [h]
theorem rs_has (d : DS) (i : Int) : (rsOf d).has i = d.has i := by
  show (decide (0 ≤ i) && decide (i < (d.blks.length : Int))) = _
  rw [blks_len]; rfl

theorem rs_wrote {d : DS} {k : Nat} {t : List UInt8} (h : d.has (k : Int) = true) (ht : t.length = 64) (ho : d.on = true) (hf : d.fuse ≠ 0) : rsOf (d.wrote (k : Int) t) = ⟨d.blks.set k t, true, max (max d.fuse (-1) - 1) (-1), d.torn, d.wr + 1⟩ := by
  have hle := DS.has_le h
  rw [Int.toNat_natCast] at hle
  have hl : (d.wrote (k : Int) t).bs = splice d.bs (64 * k) t := rfl
  have hn : (d.wrote (k : Int) t).n = d.n := by unfold DS.n; rw [hl, len_splice (by omega)]
  have e : (d.wrote (k : Int) t).blks = d.blks.set k t := blks_set hn (fun j hj => blk_other hl (by omega) (by omega) hj) (blk_all hl ht (by omega))
  have ef : max (if 0 < d.fuse then d.fuse - 1 else d.fuse) (-1) = max (max d.fuse (-1) - 1) (-1) := by split <;> omega
  show RS.mk (d.wrote (k : Int) t).blks d.on (max (if 0 < d.fuse then d.fuse - 1 else d.fuse) (-1)) d.torn (d.wr + 1) = _
  rw [e, ef, ho]
theorem rs_torn {d : DS} {k : Nat} {t : List UInt8} (h : d.has (k : Int) = true) (ht : t.length = 64) (hto : d.torn ≤ 64) : rsOf (d.torn1 (k : Int) t) = ⟨d.blks.set k (t.take d.torn ++ (d.blk k).drop d.torn), false, max d.fuse (-1), d.torn, d.wr⟩ := by
  have hle := DS.has_le h
  rw [Int.toNat_natCast] at hle
  have htl : (t.take d.torn).length = d.torn := by simp; omega
  have hl : (d.torn1 (k : Int) t).bs = splice d.bs (64 * k) (t.take d.torn) := rfl
  have hn : (d.torn1 (k : Int) t).n = d.n := by unfold DS.n; rw [hl, len_splice (by omega)]
  have e : (d.torn1 (k : Int) t).blks = d.blks.set k (t.take d.torn ++ (d.blk k).drop d.torn) := blks_set hn (fun j hj => blk_other hl (by omega) (by omega) hj) (by rw [blk_same hl (by omega) (by omega), htl])
  show RS.mk (d.torn1 (k : Int) t).blks false (max d.fuse (-1)) d.torn d.wr = _
  rw [e]

theorem rwrite_c (q o : Nat) (d : DS) (i : Int) (t : ByteArray) (w : World) (h : RIs w q o (rsOf d)) (hk : d.Ok) (hn : d.n ≤ 12) (ht : t.size ≤ 9223372036854775807) (hw : d.wr ≤ 1000000) :
    Calls Tryd.prog 18 #[.pointer (some ⟨q, 0, none⟩), .int .i64 i, .string t] w fun e w' => e = .returned (.int .i64 ((d.write i t.data.toList).1 : Nat)) ∧ RIs w' q o (rsOf (d.write i t.data.toList).2) ∧ Chg q o w w' := by
  have hlen : (rsOf d).ls.length ≤ 12 := by show d.blks.length ≤ 12; rw [blks_len]; exact hn
  by_cases hi : d.has i = true
  · by_cases h64 : t.size = 64
    · have hl : t.data.toList.length = 64 := by rw [len_data]; exact h64
      obtain ⟨k, rfl⟩ := Int.eq_ofNat_of_zero_le (DS.has_iff.1 hi).1
      have hkn : k < d.n := by have := (DS.has_iff.1 hi).2; omega
      have hkl : k < (rsOf d).ls.length := by show k < d.blks.length; rw [blks_len]; exact hkn
      cases ho : d.on
      · rw [write_off hi hl ho]
        exact (rwrite_off q o k (rsOf d) t w h h64 hlen hkl ho).mono fun _ _ ⟨h1, h2⟩ => by subst h2; exact ⟨h1, h, Chg.refl _ _ _⟩
      · by_cases hf : d.fuse = 0
        · rw [write_torn hi hl ho hf, rs_torn hi hl hk.torn]
          have hbl := DS.blk_len hi
          rw [Int.toNat_natCast] at hbl
          exact (rwrite_tear q o k (rsOf d) t (d.blk k) w h h64 hlen (blks_get d k hkn) hbl ho (by show max d.fuse (-1) = 0; rw [hf]; rfl) hk.torn)
        · rw [write_whole hi hl ho hf, rs_wrote hi hl ho hf]
          have h1 := hk.lo
          have h2 := hk.hi
          exact rwrite_full q o k (rsOf d) t w h h64 hlen hkl ho (by show max d.fuse (-1) ≠ 0; omega) (by show -1 ≤ max d.fuse (-1); omega) (by show max d.fuse (-1) ≤ _; omega) hw
    · rw [write_no (.inr (by rw [len_data]; exact h64))]
      exact (rwrite_bad q o (rsOf d) i t w h ht hlen (.inr h64)).mono fun _ _ ⟨h1, h2⟩ => by subst h2; exact ⟨h1, h, Chg.refl _ _ _⟩
  · have hi' : d.has i = false := by simpa using hi
    rw [write_no (.inl hi')]
    exact (rwrite_bad q o (rsOf d) i t w h ht hlen (.inl (by rw [rs_has]; exact hi'))).mono fun _ _ ⟨h1, h2⟩ => by subst h2; exact ⟨h1, h, Chg.refl _ _ _⟩

theorem rs_fuse (d : DS) (n t : Int) : rsOf (d.setFuse n t) = ⟨d.blks, d.on, if d.on then max n (-1) else max d.fuse (-1), if d.on then clampI t 64 else d.torn, d.wr⟩ := by
  cases ho : d.on
  · have e : d.setFuse n t = d := by unfold DS.setFuse; rw [ho]; rfl
    rw [e]; unfold rsOf; rw [ho]; rfl
  · have e : d.setFuse n t = { d with fuse := n, torn := clampI t 64 } := by unfold DS.setFuse; rw [ho]; rfl
    rw [e]
    show RS.mk (DS.blks _) d.on (max n (-1)) (clampI t 64) d.wr = _
    rw [ho]; rfl
theorem rs_come (d : DS) : rsOf d.come = ⟨d.blks, true, if d.on then max d.fuse (-1) else -1, d.torn, d.wr⟩ := by
  cases ho : d.on
  · have e : d.come = { d with on := true, fuse := -1 } := by unfold DS.come; rw [ho]; rfl
    rw [e]; rfl
  · have e : d.come = d := by unfold DS.come; rw [ho]; rfl
    rw [e]; unfold rsOf; rw [ho]; rfl
theorem chunks_flat (l : List UInt8) (j : Nat) : (chunks l j).flatten = l.take (64 * j) := by
  induction j with
  | zero => simp [chunks]
  | succ j ih => rw [chunks_succ, List.flatten_append, ih, show 64 * (j + 1) = 64 * j + 64 by omega, List.take_add]; simp
theorem blks_flat {d : DS} (h : d.Ok) : d.blks.flatten = d.bs := by
  have := h.whole
  unfold DS.blks; rw [chunks_flat, List.take_of_length_le (by unfold DS.n; omega)]
theorem blks_64 (d : DS) : ∀ b ∈ d.blks, b.length = 64 := by
  intro b hb
  obtain ⟨j, hj⟩ := List.getElem?_of_mem hb
  have hjn : j < d.n := by have := (List.getElem?_eq_some_iff.1 hj).1; rwa [blks_len] at this
  rw [blks_get d j hjn] at hj
  obtain rfl := Option.some.inj hj
  have := DS.blk_len (d := d) (i := (j : Int)) (by rw [DS.has_iff]; omega)
  rwa [Int.toNat_natCast] at this
theorem rs_new (T : ByteArray) : rsOf (newD (T.data.toList.take (64 * (T.size / 64)))) = ⟨chunks T.data.toList (T.size / 64), true, -1, 0, 0⟩ := by
  have hn : (newD (T.data.toList.take (64 * (T.size / 64)))).n = T.size / 64 := take_n _ _ (by rw [len_data]; omega)
  have e : (newD (T.data.toList.take (64 * (T.size / 64)))).blks = chunks T.data.toList (T.size / 64) := by
    unfold DS.blks
    rw [hn]
    show (List.range (T.size / 64)).map _ = (List.range (T.size / 64)).map _
    apply List.map_congr_left
    intro j hj
    have hj' := List.mem_range.1 hj
    show ((T.data.toList.take (64 * (T.size / 64))).drop (64 * j)).take 64 = _
    rw [List.drop_take, List.take_take, Nat.min_eq_left (by omega)]
  show RS.mk (newD _).blks true (-1) 0 0 = _
  rw [e]
end Go.Proofs.YthlpfedcmiiibaaDoor
