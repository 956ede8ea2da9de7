/- Plain arithmetic of a store that lost its power: what can't be read any more, and what it tells when it is opened again. No program, no conditions. -/
import Derived.Test.YtmfchjbpbfkgiaaGreatDoorShM
namespace Go.Proofs.YtmfchjbpbfkgiaaGreatDoor
open Go

/-- A row whose first block has a number below M. -/
def LowR (M : Nat) (l : List (List UInt8)) : Prop := ∀ b, l[0]? = some b → seqOf b < M
/-- A row whose first frame lacks a block. -/
def TrnR (l : List (List UInt8)) : Prop := ∃ nn j, 1 ≤ nn ∧ nn ≤ 108 ∧ j < nn ∧ (∀ b, l[0]? = some b → b.drop 62 = leB 2 nn ∨ b.drop 62 = [0, 0]) ∧ ∀ b, l[j]? = some b → b.drop 62 = [0, 0]
/-- Neither begins with a frame of a number M or above, nor does what a wiping leaves of it. -/
def Dead (M : Nat) (l : List (List UInt8)) : Prop := LowR M l ∨ TrnR l

theorem trail_two {b : List UInt8} {q i n : Nat} (h : b.drop 56 = trailF q i n) : b.drop 62 = leB 2 n := by
  have h1 : b.drop 62 = (b.drop 56).drop 6 := by rw [List.drop_drop]
  rw [h1, h]
  unfold trailF
  exact drop_appF (by rw [List.length_append, leB_len, leB_len])
theorem read_blk {l : List (List UInt8)} {x : List UInt8} {q n : Nat} (h : readF l = .ok (x, q, n)) : 1 ≤ q ∧ q ≤ 2147483647 ∧ 1 ≤ n ∧ n ≤ 108 ∧ ∀ i, i < n → ∃ b, l[i]? = some b ∧ b.length = 64 ∧ b.drop 56 = trailF q i n := by
  obtain ⟨h1, h2, h3, h4, h5⟩ := readF_is h
  have hn := nblk_bd h3
  rw [← h4] at hn
  refine ⟨h1, h2, hn.1, hn.2, fun i hi => ?_⟩
  have hf := framesF_get q x i (by omega)
  rw [← h5, List.getElem?_take_of_lt hi, ← h4] at hf
  exact ⟨_, hf, blkF_len (by rw [payF_len, ← h4]) hi, blkF_drop (by rw [payF_len, ← h4]) hi⟩
theorem two_zero {n : Nat} (h0 : 1 ≤ n) (h1 : n ≤ 108) : leB 2 n ≠ [0, 0] := fun h => by
  have : n = 0 := leB_inj (k := 2) (by rw [show (256 : Nat) ^ 2 = 65536 from rfl]; omega) (by decide) (h.trans (leB_zero 2).symm)
  omega
theorem dead_read {M : Nat} {l : List (List UInt8)} (hd : Dead M l) {x : List UInt8} {q n : Nat} (h : readF l = .ok (x, q, n)) : q < M := by
  obtain ⟨h1, h2, h3, h4, h5⟩ := read_blk h
  obtain ⟨b, hb, _, ht⟩ := h5 0 (by omega)
  rcases hd with hl | ⟨nn, j, n1, n2, hj, hz, hjz⟩
  · have := hl b hb
    rwa [trail_seq ht (by rw [show (256 : Nat) ^ 4 = 4294967296 from rfl]; omega)] at this
  · exfalso
    have e := trail_two ht
    have hnn : n = nn := by
      rcases hz b hb with h | h
      · exact leB_inj (k := 2) (by rw [show (256 : Nat) ^ 2 = 65536 from rfl]; omega) (by rw [show (256 : Nat) ^ 2 = 65536 from rfl]; omega) (e.symm.trans h)
      · exact absurd (e.symm.trans h) (two_zero h3 h4)
    obtain ⟨c, hc, _, hct⟩ := h5 j (by omega)
    exact absurd ((trail_two hct).symm.trans (hjz c hc)) (two_zero h3 h4)
theorem dead_snap {M : Nat} {l : List (List UInt8)} (hd : Dead M l) (hM : 1 ≤ M) : (snapF l).1 < M := by
  rcases snapF_cases l with ⟨x, q, n, h, e, _⟩ | ⟨e, _⟩
  · rw [e]; exact dead_read hd h
  · rw [e]; exact hM
theorem dead_next {b : Nat} {l : List (List UInt8)} (hd : Dead (b + 1) l) : nextF l b = none := by
  unfold nextF
  cases h : readF l with
  | error k => rfl
  | ok r =>
    obtain ⟨x, q, n⟩ := r
    have := dead_read hd h
    exact if_neg (by omega)
theorem seq_zero : seqOf zeroF = 0 := by decide +kernel
theorem dead_zero {M : Nat} {l : List (List UInt8)} (hM : 0 < M) (h : l[0]? = some zeroF) : Dead M l := .inl fun b hb => by
  rw [h] at hb
  rw [← Option.some.inj hb, seq_zero]; exact hM
theorem dead_nil (M : Nat) : Dead M [] := .inl fun b hb => by cases hb
theorem dead_zeros {M k : Nat} (hM : 0 < M) : Dead M (List.replicate k zeroF) := by
  cases k with
  | zero => exact dead_nil M
  | succ k => exact dead_zero hM rfl
theorem low_mono {M M' : Nat} {l : List (List UInt8)} (h : LowR M l) (hM : M ≤ M') : LowR M' l := fun b hb => Nat.lt_of_lt_of_le (h b hb) hM

theorem val_wipe : ∀ (l : List UInt8) (s : Nat), s ≤ l.length → valB (List.replicate s 0 ++ l.drop s) ≤ valB l
  | l, 0, _ => by simp
  | [], s + 1, h => by simp at h
  | x :: l, s + 1, h => by
    have := val_wipe l s (by simpa using h)
    rw [List.replicate_succ, List.cons_append, List.drop_succ_cons, valB, valB]
    have h0 : (0 : UInt8).toNat = 0 := rfl
    omega
theorem wiped_seq {b : List UInt8} {t : Nat} (hb : b.length = 64) (ht : t ≤ 64) : seqOf (List.replicate t 0 ++ b.drop t) ≤ seqOf b := by
  unfold seqOf
  by_cases h : t ≤ 56
  · rw [List.drop_append, List.drop_of_length_le (by simp; omega), List.nil_append, List.length_replicate, List.drop_drop, show t + (56 - t) = 56 by omega]
    exact Nat.le_refl _
  · obtain ⟨s, rfl⟩ : ∃ s, t = 56 + s := ⟨t - 56, by omega⟩
    have e : (List.replicate (56 + s) (0 : UInt8) ++ b.drop (56 + s)).drop 56 = List.replicate s 0 ++ (b.drop 56).drop s := by
      rw [List.drop_append, List.drop_replicate, List.length_replicate, show 56 + s - 56 = s by omega, show 56 - (56 + s) = 0 by omega, List.drop_zero, List.drop_drop]
    rw [e]
    by_cases h4 : s ≤ 4
    · have e2 : (List.replicate s (0 : UInt8) ++ (b.drop 56).drop s).take 4 = List.replicate s 0 ++ ((b.drop 56).take 4).drop s := by
        rw [List.take_append, List.take_of_length_le (by simp; omega), List.length_replicate, List.drop_take]
      rw [e2]
      exact val_wipe _ _ (by simp; omega)
    · rw [List.take_append_of_le_length (by simp; omega), List.take_replicate, val_zeros]
      exact Nat.zero_le _
theorem wiped_two {b : List UInt8} {t : Nat} (hb : b.length = 64) (ht : t ≤ 64) (hz : (b.drop 62).drop 1 = [0]) : (List.replicate t 0 ++ b.drop t).drop 62 = b.drop 62 ∨ (List.replicate t 0 ++ b.drop t).drop 62 = [0, 0] := by
  by_cases h : t ≤ 62
  · left
    rw [List.drop_append, List.drop_of_length_le (by simp; omega), List.nil_append, List.length_replicate, List.drop_drop, show t + (62 - t) = 62 by omega]
  · right
    rw [List.drop_drop] at hz
    obtain rfl | rfl : t = 63 ∨ t = 64 := by omega
    · rw [show List.drop 63 b = [0] from hz]; rfl
    · rw [List.drop_of_length_le (i := 64) (by omega)]; rfl
theorem two_low {n : Nat} (h : n ≤ 108) : (leB 2 n).drop 1 = [0] := by
  show [UInt8.ofNat (n / 256 % 256)] = [0]
  rw [show n / 256 % 256 = 0 by omega]; rfl
/-- The first block is wiped in part. -/
theorem dead_wipe {M t : Nat} {l l' : List (List UInt8)} {b : List UInt8} (hd : Dead M l) (hb : l[0]? = some b) (h64 : b.length = 64) (ht : t ≤ 64) (h0 : l'[0]? = some (List.replicate t 0 ++ b.drop t)) (hs : ∀ i, 0 < i → l'[i]? = l[i]?) : Dead M l' := by
  rcases hd with hl | ⟨nn, j, n1, n2, hj, hz, hjz⟩
  · left
    intro c hc
    rw [h0] at hc
    rw [← Option.some.inj hc]
    exact Nat.lt_of_le_of_lt (wiped_seq h64 ht) (hl b hb)
  · right
    have hb1 : (b.drop 62).drop 1 = [0] := by
      rcases hz b hb with h | h
      · rw [h]; exact two_low n2
      · rw [h]; rfl
    refine ⟨nn, j, n1, n2, hj, fun c hc => ?_, fun c hc => ?_⟩
    · rw [h0] at hc
      rw [← Option.some.inj hc]
      rcases wiped_two h64 ht hb1 with h | h
      · rw [h]; exact hz b hb
      · exact .inr h
    · by_cases hj0 : j = 0
      · subst hj0
        rw [h0] at hc
        rw [← Option.some.inj hc]
        rcases wiped_two h64 ht hb1 with h | h
        · rw [h]; exact hjz b hb
        · exact h
      · rw [hs j (by omega)] at hc
        exact hjz c hc
/-- A frame that is laid over zeros, as far as the block k, which is torn. -/
theorem part_frame {q k t : Nat} {d x : List UInt8} {T : List (List UInt8)} (_h1 : 1 ≤ q) (_h2 : q ≤ 2147483647) (hd : d.length ≤ 6000) (hk : k < nblk d.length) (ht : t ≤ 64) (hx : (framesF q d)[k]? = some x)
    (hlen : nblk d.length ≤ T.length) (hlow : ∀ i, i < k → T[i]? = (framesF q d)[i]?) (hat : T[k]? = some (tornB x t)) (hup : ∀ i, k < i → i < T.length → T[i]? = some zeroF) :
    T = framesF q d ++ List.replicate (T.length - nblk d.length) zeroF ∧ t ≠ 0 ∨ TrnR T := by
  have hn := nblk_bd hd
  have hP := payF_len d
  have hxb := framesF_get q d k hk
  rw [hx] at hxb
  have hxe := Option.some.inj hxb
  have hxl : x.length = 64 := by rw [hxe]; exact blkF_len hP hk
  have hx2 : x.drop 62 = leB 2 (nblk d.length) := by rw [hxe]; exact trail_two (blkF_drop hP hk)
  have h63 : 62 < t → tornB x t = x := fun h => by
    refine split_at 63 (tornB_take hxl (by omega) ht) ?_
    have e : x.drop 63 = [0] := by
      have := two_low hn.2
      rw [← hx2, List.drop_drop] at this
      exact this
    rw [e]
    obtain rfl | rfl : t = 63 ∨ t = 64 := by omega
    · rw [tornB_low hxl (Nat.le_refl _) (by omega)]; rfl
    · unfold tornB; rw [List.take_of_length_le (by omega), Nat.sub_self]; simpa using e
  have hlo : t ≤ 62 → (tornB x t).drop 62 = [0, 0] := fun h => by rw [tornB_low hxl h (by omega)]; rfl
  have hfirst : ∀ b, T[0]? = some b → b.drop 62 = leB 2 (nblk d.length) ∨ b.drop 62 = [0, 0] := fun b hb => by
    by_cases hk0 : k = 0
    · subst hk0
      rw [hat] at hb
      rw [← Option.some.inj hb]
      by_cases h : t ≤ 62
      · exact .inr (hlo h)
      · rw [h63 (by omega)]; exact .inl hx2
    · rw [hlow 0 (by omega), framesF_get q d 0 (by omega)] at hb
      rw [← Option.some.inj hb]
      exact .inl (trail_two (blkF_drop hP (by omega)))
  by_cases he : t ≤ 62
  · right
    refine ⟨nblk d.length, k, hn.1, hn.2, hk, hfirst, fun b hb => ?_⟩
    rw [hat] at hb
    rw [← Option.some.inj hb]; exact hlo he
  · have hwh := h63 (by omega)
    by_cases hl : k + 1 = nblk d.length
    · left
      refine ⟨?_, by omega⟩
      apply List.ext_getElem?
      intro i
      by_cases hi : i < nblk d.length
      · rw [List.getElem?_append_left (by rw [framesF_len]; exact hi)]
        by_cases hik : i = k
        · subst hik; rw [hat, hwh, hx]
        · exact hlow i (by omega)
      · rw [List.getElem?_append_right (by rw [framesF_len]; omega), framesF_len]
        by_cases hiT : i < T.length
        · rw [hup i (by omega) hiT, List.getElem?_replicate_of_lt (by omega)]
        · rw [List.getElem?_eq_none (by omega), List.getElem?_eq_none (by rw [List.length_replicate]; omega)]
    · right
      refine ⟨nblk d.length, k + 1, hn.1, hn.2, by omega, hfirst, fun b hb => ?_⟩
      rw [hup (k + 1) (by omega) (by omega)] at hb
      rw [← Option.some.inj hb]; decide +kernel

/-- The areas of the disk d tell the state T, whose number is N; the area at nx is dead. -/
structure AreaAt (d : DS) (z N nx : Nat) (T : List UInt8) : Prop where
  zpos : 0 < z
  side : nx = 0 ∨ nx = z
  cur : (N = 0 ∧ T = [] ∧ nx = 0 ∧ LowR 1 (rowsD d (z - nx) z)) ∨ (1 ≤ N ∧ ∃ n, readF (rowsD d (z - nx) z) = .ok (T, N, n))
  dead : Dead (max N 1) (rowsD d nx z)
theorem AreaAt.tells {d : DS} {z N nx : Nat} {T : List UInt8} (h : AreaAt d z N nx T) : Tells7 d z N nx T := by
  have hd := dead_snap h.dead (by omega)
  unfold Tells7 selF
  rcases h.cur with ⟨rfl, rfl, rfl, hc⟩ | ⟨h1, n, hr⟩
  · have hc1 := dead_snap (M := 1) (.inl hc) (Nat.le_refl _)
    rw [Nat.sub_zero] at hc1
    have hd0 : (snapF (rowsD d 0 z)).1 < 1 := hd
    have hz := snapF_zero (l := rowsD d 0 z) (by omega)
    rw [if_neg (by omega), if_neg (by omega), show (snapF (rowsD d 0 z)).1 = 0 by omega]
  · have hs := snapF_ok hr
    rw [show max N 1 = N by omega] at hd
    rcases h.side with rfl | rfl
    · rw [Nat.sub_zero] at hs
      rw [hs, if_pos hd]
    · rw [Nat.sub_self] at hs
      rw [hs, if_neg (by show ¬ N < _; omega), if_pos (by show 0 < N; omega)]
theorem AreaAt.low {d : DS} {z N nx : Nat} {T : List UInt8} (h : AreaAt d z N nx T) : LowR (N + 1) (rowsD d (z - nx) z) := by
  rcases h.cur with ⟨rfl, rfl, rfl, hc⟩ | ⟨h1, n, hr⟩
  · exact hc
  · intro b hb
    obtain ⟨h1, h2, h3, _, h5⟩ := read_blk hr
    obtain ⟨c, hc, _, ht⟩ := h5 0 (by omega)
    rw [hb] at hc
    rw [Option.some.inj hc, trail_seq ht (by rw [show (256 : Nat) ^ 4 = 4294967296 from rfl]; omega)]
    omega
theorem AreaAt.same {d e : DS} {z N nx : Nat} {T : List UInt8} (h : AreaAt d z N nx T) (hs : ∀ j, j < 2 * z → e.blk j = d.blk j) : AreaAt e z N nx T := by
  have hx : nx ≤ z := by rcases h.side with h | h <;> omega
  refine ⟨h.zpos, h.side, ?_, ?_⟩
  · rw [rowsD_same (d := d) (e := e) (a := z - nx) fun i hi => hs _ (by omega)]; exact h.cur
  · rw [rowsD_same (d := d) (e := e) (a := nx) fun i hi => hs _ (by omega)]; exact h.dead
/-- A new state in the other area. -/
theorem AreaAt.turn {d e : DS} {z N nx N' : Nat} {T X : List UInt8} (h : AreaAt d z N nx T) (hN : N < N') (hN2 : N' ≤ 2147483647) (hX : X.length ≤ 6000) {k : Nat} (hnew : rowsD e nx z = framesF N' X ++ List.replicate k zeroF) (hold : ∀ i, i < z → e.blk (z - nx + i) = d.blk (z - nx + i)) : AreaAt e z N' (z - nx) X := by
  have hx : z - (z - nx) = nx := by rcases h.side with h | h <;> omega
  refine ⟨h.zpos, by rcases h.side with h | h <;> omega, .inr ⟨by omega, nblk X.length, by rw [hx, hnew]; exact read_frames N' X _ (by omega) hN2 hX⟩, .inl ?_⟩
  rw [rowsD_same (d := d) (e := e) (a := z - nx) hold]
  exact low_mono h.low (by omega)
/-- The dead area was written, and is dead. -/
theorem AreaAt.still {d e : DS} {z N nx : Nat} {T : List UInt8} (h : AreaAt d z N nx T) (hd : Dead (max N 1) (rowsD e nx z)) (hold : ∀ i, i < z → e.blk (z - nx + i) = d.blk (z - nx + i)) : AreaAt e z N nx T :=
  ⟨h.zpos, h.side, by rw [rowsD_same (d := d) (e := e) (a := z - nx) hold]; exact h.cur, hd⟩

/-- What the blocks tell when the store is opened: the state, its number, the records behind it. -/
structure OpenAt (d : DS) (z m N nx : Nat) (T : List UInt8) (rs : List (List UInt8)) : Prop where
  fits : 2 * z + m ≤ d.n
  area : AreaAt d z N nx T
  foll : Follows (rowsD d (2 * z) m) N rs
  tail : Dead (N + rs.length + 1) ((rowsD d (2 * z) m).drop (layR N rs).length)
theorem LogAt.opens {d : DS} {z m N nx : Nat} {T : List UInt8} {rs : List (List UInt8)} (h : LogAt d (2 * z) m N rs) (ha : AreaAt d z N nx T) : OpenAt d z m N nx T rs :=
  ⟨h.fits, ha, h.follows, by rw [h.rows, List.drop_left' rfl]; exact dead_zeros (by omega)⟩
theorem OpenAt.used {d : DS} {z m N nx : Nat} {T : List UInt8} {rs : List (List UInt8)} (h : OpenAt d z m N nx T rs) : (layR N rs).length ≤ m := by
  have := congrArg List.length h.foll.laid
  rw [List.length_take, rowsD_len] at this; omega
/-- The disk is what it was. -/
theorem OpenAt.same {d e : DS} {z m N nx : Nat} {T : List UInt8} {rs : List (List UInt8)} (h : OpenAt d z m N nx T rs) (hn : e.n = d.n) (hs : ∀ j, e.blk j = d.blk j) : OpenAt e z m N nx T rs := by
  refine ⟨by rw [hn]; exact h.fits, h.area.same fun j _ => hs j, ?_, ?_⟩
  · rw [rowsD_same (d := d) (e := e) fun i _ => hs _]; exact h.foll
  · rw [rowsD_same (d := d) (e := e) fun i _ => hs _]; exact h.tail
theorem rows_64 {d : DS} {a m i : Nat} {b : List UInt8} (h : a + m ≤ d.n) (hb : (rowsD d a m)[i]? = some b) : b.length = 64 := by
  have hl := (List.getElem?_eq_some_iff.1 hb).1
  rw [rowsD_len] at hl
  rw [rowsD_get hl] at hb
  rw [← Option.some.inj hb]
  have := DS.blk_len (has_nat (d := d) (i := a + i) (by omega))
  rwa [Int.toNat_natCast] at this
/-- A row of blocks that a wiping was cut short in: its head is zeros, or its first block is wiped in part. -/
theorem cut_dead {d e : DS} {a m k t M : Nat} (hd : Dead M (rowsD d a m)) (hM : 0 < M) (hfit : a + m ≤ d.n) (ht : t ≤ 64) (hak : a ≤ k) (hk : k < a + m) (he : ∀ j, a ≤ j → j < a + m → e.blk j = if j < k then zeroF else if j = k then List.replicate t 0 ++ (d.blk k).drop t else d.blk j) : Dead M (rowsD e a m) := by
  by_cases h0 : a = k
  · subst h0
    have hb : (rowsD d a m)[0]? = some (d.blk a) := by rw [rowsD_get (by omega)]; rfl
    refine dead_wipe hd hb (rows_64 hfit hb) ht ?_ fun i hi => ?_
    · rw [rowsD_get (by omega), Nat.add_zero, he a (by omega) (by omega), if_neg (by omega), if_pos rfl]
    · by_cases him : i < m
      · rw [rowsD_get him, rowsD_get him, he (a + i) (by omega) (by omega), if_neg (by omega), if_neg (by omega)]
      · rw [List.getElem?_eq_none (by rw [rowsD_len]; omega), List.getElem?_eq_none (by rw [rowsD_len]; omega)]
  · refine dead_zero hM ?_
    rw [rowsD_get (by omega), Nat.add_zero, he a (by omega) (by omega), if_pos (by omega)]
/-- The power goes while the blocks behind the records are wiped. -/
theorem OpenAt.cut {d e : DS} {z m N nx k t : Nat} {T : List UInt8} {rs : List (List UInt8)} (h : OpenAt d z m N nx T rs) (hn : e.n = d.n) (ht : t ≤ 64) (hak : 2 * z + (layR N rs).length ≤ k) (hk : k < 2 * z + m)
    (he : ∀ j, e.blk j = if 2 * z + (layR N rs).length ≤ j ∧ j < k then zeroF else if j = k then List.replicate t 0 ++ (d.blk k).drop t else d.blk j) : OpenAt e z m N nx T rs := by
  have hu := h.used
  have hfit := h.fits
  obtain ⟨U, hU⟩ : ∃ U, (layR N rs).length = U := ⟨_, rfl⟩
  have htl := h.tail
  have hfo := h.foll
  rw [hU] at hu hak he htl
  have hdrop : ∀ D : DS, (rowsD D (2 * z) m).drop U = rowsD D (2 * z + U) (m - U) := fun D => by
    conv => lhs; rw [show m = U + (m - U) by omega, rowsD_app, List.drop_left' (rowsD_len _ _ _)]
  have htake : (rowsD e (2 * z) m).take U = (rowsD d (2 * z) m).take U := by
    have ht1 : ∀ D : DS, (rowsD D (2 * z) m).take U = rowsD D (2 * z) U := fun D => by
      conv => lhs; rw [show m = U + (m - U) by omega, rowsD_app, List.take_left' (rowsD_len _ _ _)]
    rw [ht1, ht1, rowsD_same (d := d) (e := e) fun i hi => by rw [he, if_neg (by omega), if_neg (by omega)]]
  rw [hdrop] at htl
  have hdead : Dead (N + rs.length + 1) (rowsD e (2 * z + U) (m - U)) := cut_dead (d := d) htl (by omega) (by omega) ht hak (by omega) fun j h1 h2 => by
    rw [he]
    by_cases h3 : j < k
    · rw [if_pos ⟨h1, h3⟩, if_pos h3]
    · rw [if_neg (by omega), if_neg h3]
  refine ⟨by rw [hn]; exact hfit, h.area.same fun j hj => by rw [he, if_neg (by omega), if_neg (by omega)], ⟨hfo.small, hfo.bound, ?_, ?_⟩, ?_⟩
  · have := hfo.laid
    rw [hU] at this ⊢
    rw [htake]; exact this
  · rw [hU, hdrop]; exact dead_next hdead
  · rw [hU, hdrop]; exact hdead
end Go.Proofs.YtmfchjbpbfkgiaaGreatDoor

/- Plain arithmetic of a store's calls whatever the fuse: what a Keep or an Add makes of the disk, and what it tells when it is opened again. No program, no conditions. -/
namespace Go.Proofs.YtmfchjbpbfkgiaaGreatDoor
open Go

theorem LogAt.lowR {d : DS} {a m b : Nat} {rs : List (List UInt8)} (h : LogAt d a m b rs) : LowR (b + rs.length + 2) (rowsD d a m) := fun c hc => by
  rw [h.rows] at hc
  cases rs with
  | nil =>
    simp only [layR, List.nil_append, List.length_nil] at hc
    cases hm : m - 0 with
    | zero => rw [hm] at hc; cases hc
    | succ k =>
      rw [hm] at hc
      have : zeroF = c := Option.some.inj hc
      rw [← this, seq_zero]; omega
  | cons x r =>
    have hb := h.bound
    rw [List.length_cons] at hb ⊢
    have hx : x.length ≤ 6000 := h.small x (by simp)
    have hn := (nblk_bd hx).1
    rw [layR, List.append_assoc, List.getElem?_append_left (by rw [framesF_len]; omega), framesF_get _ _ 0 (by omega)] at hc
    rw [← Option.some.inj hc, trail_seq (blkF_drop (payF_len x) (by omega)) (by rw [show (256 : Nat) ^ 4 = 4294967296 from rfl]; omega)]
    omega
/-- Records that follow a smaller number don't follow this one. -/
theorem dead_foll {d : DS} {a m b : Nat} (hd : Dead (b + 1) (rowsD d a m)) (hb : b ≤ 2147483647) : Follows (rowsD d a m) b [] := follows_none hb (dead_next hd)
/-- How a wiping ends, whatever the fuse. -/
theorem wipe_any {d : DS} {i m : Nat} (hi : i + m ≤ d.n) (ho : d.on = true) (ht : d.torn ≤ 64) :
    (∃ e, d.wipe i m = (0, e) ∧ d.Like e ∧ e.on = true ∧ e.wr ≤ d.wr + m ∧ ∀ j, e.blk j = if i ≤ j ∧ j < i + m then zeroF else d.blk j) ∨
    (∃ e k, d.wipe i m = (14, e) ∧ d.Like e ∧ e.on = false ∧ e.wr ≤ d.wr + m ∧ i ≤ k ∧ k < i + m ∧ ∀ j, e.blk j = if i ≤ j ∧ j < k then zeroF else if j = k then List.replicate d.torn 0 ++ (d.blk k).drop d.torn else d.blk j) := by
  have hwn := (wipe_n hi ho).2
  by_cases hf : d.fuse < 0 ∨ (d.dirty i m : Int) ≤ d.fuse
  · obtain ⟨e, h1, h2, h3, _, _, h6⟩ := wipe_ok m d i hi ho hf
    rw [h1] at hwn
    exact .inl ⟨e, h1, h2, h3, hwn, h6⟩
  · obtain ⟨e, k, h1, h2, h3, _, h5, h6, _, _, h9⟩ := wipe_cut m d i d.fuse.toNat hi ho ht (by omega) (by omega)
    rw [h1] at hwn
    exact .inr ⟨e, k, h1, h2, h3, hwn, h5, h6, h9⟩
theorem puts_any {d : DS} {i : Nat} {l : List (List UInt8)} (hi : i + l.length ≤ d.n) (hs : ∀ s ∈ l, s.length = 64) (ho : d.on = true) (ht : d.torn ≤ 64) :
    (∃ e, d.puts i l = (0, e) ∧ d.Like e ∧ e.on = true ∧ e.wr ≤ d.wr + l.length ∧ ∀ j, e.blk j = if i ≤ j ∧ j < i + l.length then l.getD (j - i) [] else d.blk j) ∨
    (∃ e k, d.puts i l = (14, e) ∧ d.Like e ∧ e.on = false ∧ e.wr ≤ d.wr + l.length ∧ k < l.length ∧ ∀ j, e.blk j = if i ≤ j ∧ j < i + k then l.getD (j - i) [] else if j = i + k then (l.getD k []).take d.torn ++ (d.blk j).drop d.torn else d.blk j) := by
  have hwn := (puts_n hi hs ho).2
  by_cases hf : d.fuse < 0 ∨ (l.length : Int) ≤ d.fuse
  · obtain ⟨e, h1, h2, h3, _, _, h6⟩ := puts_ok l d i hi hs ho hf
    rw [h1] at hwn
    exact .inl ⟨e, h1, h2, h3, hwn, h6⟩
  · obtain ⟨e, h1, h2, h3, _, h6⟩ := puts_cut l d i d.fuse.toNat hi hs ho ht (by omega) (by omega)
    rw [h1] at hwn
    exact .inr ⟨e, d.fuse.toNat, h1, h2, h3, hwn, by omega, h6⟩
theorem zero_drop (t : Nat) : zeroF.drop t = List.replicate (64 - t) 0 := by unfold zeroF; rw [List.drop_replicate]

/-- A Keep, whatever the fuse. -/
theorem keep_any {d : DS} {z m N nx : Nat} {T X : List UInt8} {rs : List (List UInt8)} (ha : AreaAt d z N nx T) (hlog : LogAt d (2 * z) m N rs) (hX : X.length ≤ 6000) (hn : nblk X.length ≤ z) (hq : N + rs.length + 1 ≤ 2147483647) (ho : d.on = true) (ht : d.torn ≤ 64) :
    (∃ e, d.wipe nx z = (14, e) ∧ d.Like e ∧ e.on = false ∧ e.wr ≤ d.wr + 2 * z + m ∧ OpenAt e z m N nx T rs) ∨
    ∃ e1, d.wipe nx z = (0, e1) ∧ e1.on = true ∧ e1.n = d.n ∧ e1.wr ≤ d.wr + z ∧
      ((∃ e, e1.puts nx (framesF (N + rs.length + 1) X) = (14, e) ∧ d.Like e ∧ e.on = false ∧ e.wr ≤ d.wr + 2 * z + m ∧ (OpenAt e z m N nx T rs ∨ OpenAt e z m (N + rs.length + 1) (z - nx) X [])) ∨
      ∃ e2, e1.puts nx (framesF (N + rs.length + 1) X) = (0, e2) ∧ e2.on = true ∧ e2.n = d.n ∧ e2.wr ≤ d.wr + 2 * z ∧
        ((∃ e, e2.wipe (2 * z) m = (14, e) ∧ d.Like e ∧ e.on = false ∧ e.wr ≤ d.wr + 2 * z + m ∧ OpenAt e z m (N + rs.length + 1) (z - nx) X []) ∨
        ∃ e, e2.wipe (2 * z) m = (0, e) ∧ d.Like e ∧ e.on = true ∧ e.wr ≤ d.wr + 2 * z + m ∧ AreaAt e z (N + rs.length + 1) (z - nx) X ∧ LogAt e (2 * z) m (N + rs.length + 1) [])) := by
  have hfit := hlog.fits
  have hside := ha.side
  have hxz : nx + z ≤ d.n := by omega
  have hl : (framesF (N + rs.length + 1) X).length = nblk X.length := framesF_len _ _
  have hnb := nblk_bd hX
  rcases wipe_any hxz ho ht with ⟨e1, a1, a2, a3, a4, a5⟩ | ⟨e, k, a1, a2, a3, a4, a5, a6, a7⟩
  case inr =>
    refine .inl ⟨e, a1, a2, a3, by omega, ?_⟩
    have hA : AreaAt e z N nx T := ha.still (cut_dead (k := k) (t := d.torn) ha.dead (by omega) hxz ht a5 a6 fun j h1 h2 => by
      rw [a7]
      by_cases h3 : j < k
      · rw [if_pos ⟨h1, h3⟩, if_pos h3]
      · rw [if_neg (by omega), if_neg h3]) fun i hi => by rw [a7, if_neg (by omega), if_neg (by omega)]
    exact (hlog.same (e := e) a2.n fun i hi => by rw [a7, if_neg (by omega), if_neg (by omega)]).opens hA
  refine .inr ⟨e1, a1, a3, a2.n, a4, ?_⟩
  rcases puts_any (d := e1) (i := nx) (l := framesF (N + rs.length + 1) X) (by rw [a2.n, hl]; omega) frames_64 a3 (by rw [a2.torn]; exact ht) with ⟨e2, b1, b2, b3, b4, b5⟩ | ⟨e, k, b1, b2, b3, b4, b5, b6⟩
  case inr =>
    rw [hl] at b4 b5
    refine .inl ⟨e, b1, a2.trans b2, b3, by omega, ?_⟩
    have hold : ∀ i, i < z → e.blk (z - nx + i) = d.blk (z - nx + i) := fun i hi => by rw [b6, if_neg (by omega), if_neg (by omega), a5, if_neg (by omega)]
    have hlg : ∀ i, i < m → e.blk (2 * z + i) = d.blk (2 * z + i) := fun i hi => by rw [b6, if_neg (by omega), if_neg (by omega), a5, if_neg (by omega)]
    have hen : e.n = d.n := b2.n.trans a2.n
    have hxk : (framesF (N + rs.length + 1) X)[k]? = some ((framesF (N + rs.length + 1) X).getD k []) := getD_of (by omega)
    rcases part_frame (q := N + rs.length + 1) (k := k) (t := e1.torn) (d := X) (x := (framesF (N + rs.length + 1) X).getD k []) (T := rowsD e nx z) (by omega) hq hX b5 (by rw [a2.torn]; exact ht) hxk (by rw [rowsD_len]; exact hn)
      (fun i hi => by rw [rowsD_get (by omega), b6, if_pos (by omega), show nx + i - nx = i by omega]; exact (getD_of (by omega)).symm)
      (by rw [rowsD_get (by omega), b6, if_neg (by omega), if_pos rfl, a5, if_pos (by omega), zero_drop]; rfl)
      (fun i h1 h2 => by rw [rowsD_len] at h2; rw [rowsD_get h2, b6, if_neg (by omega), if_neg (by omega), a5, if_pos (by omega)]) with ⟨hrow, _⟩ | htrn
    · right
      have hA := ha.turn (N' := N + rs.length + 1) (by omega) hq hX hrow hold
      have hD : Dead (N + rs.length + 1 + 1) (rowsD e (2 * z) m) := .inl (by rw [rowsD_same (d := d) (e := e) hlg]; exact hlog.lowR)
      exact ⟨by rw [hen]; exact hfit, hA, dead_foll hD hq, by simpa [layR] using hD⟩
    · left
      exact (hlog.same (e := e) hen hlg).opens (ha.still (.inr htrn) hold)
  rw [hl] at b4 b5
  refine .inr ⟨e2, b1, b3, b2.n.trans a2.n, by omega, ?_⟩
  have h2n : e2.n = d.n := b2.n.trans a2.n
  have hrow2 : ∀ i, i < z → e2.blk (nx + i) = if i < nblk X.length then (framesF (N + rs.length + 1) X).getD i [] else zeroF := fun i hi => by
    rw [b5]
    by_cases h1 : i < nblk X.length
    · rw [if_pos (by omega), if_pos h1, show nx + i - nx = i by omega]
    · rw [if_neg (by omega), if_neg h1, a5, if_pos (by omega)]
  have hold2 : ∀ i, i < z → e2.blk (z - nx + i) = d.blk (z - nx + i) := fun i hi => by rw [b5, if_neg (by omega), a5, if_neg (by omega)]
  have hlg2 : ∀ i, i < m → e2.blk (2 * z + i) = d.blk (2 * z + i) := fun i hi => by rw [b5, if_neg (by omega), a5, if_neg (by omega)]
  rcases wipe_any (d := e2) (i := 2 * z) (m := m) (by rw [h2n]; exact hfit) b3 (by rw [b2.torn, a2.torn]; exact ht) with ⟨e, c1, c2, c3, c4, c5⟩ | ⟨e, k, c1, c2, c3, c4, c5, c6, c7⟩
  · refine .inr ⟨e, c1, a2.trans (b2.trans c2), c3, by omega, ?_, ?_⟩
    · exact ha.turn (k := z - nblk X.length) (by omega) hq hX (frame_row hn fun i hi => by rw [c5, if_neg (by omega)]; exact hrow2 i hi) fun i hi => by rw [c5, if_neg (by omega)]; exact hold2 i hi
    · refine ⟨by rw [c2.n, h2n]; exact hfit, by simp, by simpa using hq, by simp [layR], rowsD_eq (by simp [layR]) fun i hi => ?_⟩
      rw [c5, if_pos (by omega)]
      simp [layR, hi]
  · refine .inl ⟨e, c1, a2.trans (b2.trans c2), c3, by omega, ?_⟩
    have hA := ha.turn (e := e) (k := z - nblk X.length) (N' := N + rs.length + 1) (by omega) hq hX (frame_row hn fun i hi => by rw [c7, if_neg (by omega), if_neg (by omega)]; exact hrow2 i hi) fun i hi => by rw [c7, if_neg (by omega), if_neg (by omega)]; exact hold2 i hi
    have hD2 : Dead (N + rs.length + 1 + 1) (rowsD e2 (2 * z) m) := .inl (by rw [rowsD_same (d := d) (e := e2) hlg2]; exact hlog.lowR)
    have hD : Dead (N + rs.length + 1 + 1) (rowsD e (2 * z) m) := cut_dead (k := k) (t := e2.torn) hD2 (by omega) (by rw [h2n]; exact hfit) (by rw [b2.torn, a2.torn]; exact ht) c5 c6 fun j h1 h2 => by
      rw [c7]
      by_cases h3 : j < k
      · rw [if_pos ⟨h1, h3⟩, if_pos h3]
      · rw [if_neg (by omega), if_neg h3]
    exact ⟨by rw [c2.n, h2n]; exact hfit, hA, dead_foll hD hq, by simpa [layR] using hD⟩

/-- An Add, whatever the fuse. -/
theorem add_any {d : DS} {z m N nx : Nat} {T X : List UInt8} {rs : List (List UInt8)} (ha : AreaAt d z N nx T) (hlog : LogAt d (2 * z) m N rs) (hX : X.length ≤ 6000) (hr : nblk X.length ≤ m - (layR N rs).length) (hq : N + rs.length + 1 ≤ 2147483647) (ho : d.on = true) (ht : d.torn ≤ 64) :
    (∃ e, d.puts (2 * z + (layR N rs).length) (framesF (N + rs.length + 1) X) = (14, e) ∧ d.Like e ∧ e.on = false ∧ e.wr ≤ d.wr + 108 ∧ (OpenAt e z m N nx T rs ∨ d.torn ≠ 0 ∧ OpenAt e z m N nx T (rs ++ [X]))) ∨
    ∃ e, d.puts (2 * z + (layR N rs).length) (framesF (N + rs.length + 1) X) = (0, e) ∧ d.Like e ∧ e.on = true ∧ e.wr ≤ d.wr + 108 ∧ AreaAt e z N nx T ∧ LogAt e (2 * z) m N (rs ++ [X]) := by
  have hfit := hlog.fits
  have hroom := hlog.room
  have hside := ha.side
  have hl : (framesF (N + rs.length + 1) X).length = nblk X.length := framesF_len _ _
  have hnb := nblk_bd hX
  obtain ⟨U, hU⟩ : ∃ U, (layR N rs).length = U := ⟨_, rfl⟩
  rw [hU] at hr hroom ⊢
  have hlay : (layR N (rs ++ [X])).length = U + nblk X.length := by rw [layR_snoc, List.length_append, framesF_len, hU]
  have hsmall : ∀ x ∈ rs ++ [X], x.length ≤ 6000 := fun x hx => by
    rcases List.mem_append.1 hx with h | h
    · exact hlog.small x h
    · rw [List.mem_singleton.1 h]; exact hX
  have hlow : ∀ i, i < U → (layR N rs)[i]? = some (d.blk (2 * z + i)) := fun i hi => hlog.low (by omega)
  have hup : ∀ i, U ≤ i → i < m → d.blk (2 * z + i) = zeroF := fun i h1 h2 => hlog.up (by omega) h2
  have hbound : N + (rs ++ [X]).length ≤ 2147483647 := by rw [List.length_append, List.length_singleton]; omega
  rcases puts_any (d := d) (i := 2 * z + U) (l := framesF (N + rs.length + 1) X) (by rw [hl]; omega) frames_64 ho ht with ⟨e, b1, b2, b3, b4, b5⟩ | ⟨e, k, b1, b2, b3, b4, b5, b6⟩
  · rw [hl] at b4 b5
    refine .inr ⟨e, b1, b2, b3, by omega, ha.same fun j hj => by rw [b5, if_neg (by omega)], ⟨by rw [b2.n]; exact hfit, hsmall, hbound, by rw [hlay]; omega, rowsD_eq (by rw [List.length_append, List.length_replicate, hlay]; omega) fun i hi => ?_⟩⟩
    rw [layR_snoc, b5]
    by_cases h1 : i < U
    · rw [List.append_assoc, List.getElem?_append_left (by omega), hlow i h1, if_neg (by omega)]
    · by_cases h2 : i < U + nblk X.length
      · rw [List.getElem?_append_left (by rw [List.length_append, framesF_len]; omega), List.getElem?_append_right (by omega), hU, if_pos (by omega), show 2 * z + i - (2 * z + U) = i - U by omega]
        exact getD_of (by omega)
      · rw [List.getElem?_append_right (by rw [List.length_append, framesF_len]; omega), List.getElem?_replicate_of_lt (by rw [List.length_append, framesF_len, hU]; omega), if_neg (by omega), hup i (by omega) hi]
  · rw [hl] at b4 b5
    refine .inl ⟨e, b1, b2, b3, by omega, ?_⟩
    have hA : AreaAt e z N nx T := ha.same fun j hj => by rw [b6, if_neg (by omega), if_neg (by omega)]
    have hxk : (framesF (N + rs.length + 1) X)[k]? = some ((framesF (N + rs.length + 1) X).getD k []) := getD_of (by omega)
    have hsplit : rowsD e (2 * z) m = layR N rs ++ rowsD e (2 * z + U) (m - U) := by
      conv => lhs; rw [show m = U + (m - U) by omega, rowsD_app]
      congr 1
      exact rowsD_eq hU fun i hi => by rw [hlow i hi, b6, if_neg (by omega), if_neg (by omega)]
    rcases part_frame (q := N + rs.length + 1) (k := k) (t := d.torn) (d := X) (x := (framesF (N + rs.length + 1) X).getD k []) (T := rowsD e (2 * z + U) (m - U)) (by omega) hq hX b5 ht hxk (by rw [rowsD_len]; exact hr)
      (fun i hi => by rw [rowsD_get (by omega), b6, if_pos (by omega), show 2 * z + U + i - (2 * z + U) = i by omega]; exact (getD_of (by omega)).symm)
      (by rw [rowsD_get (by omega), b6, if_neg (by omega), if_pos rfl, show 2 * z + U + k = 2 * z + (U + k) by omega, hup (U + k) (by omega) (by omega), zero_drop]; rfl)
      (fun i h1 h2 => by rw [rowsD_len] at h2; rw [rowsD_get h2, b6, if_neg (by omega), if_neg (by omega), show 2 * z + U + i = 2 * z + (U + i) by omega]; exact congrArg some (hup (U + i) (by omega) (by omega))) with ⟨hrow, ht0⟩ | htrn
    · right
      refine ⟨ht0, LogAt.opens ⟨by rw [b2.n]; exact hfit, hsmall, hbound, by rw [hlay]; omega, ?_⟩ hA⟩
      rw [hsplit, hrow, layR_snoc, List.append_assoc, rowsD_len, List.length_append, hU, framesF_len, Nat.sub_sub]
    · left
      have hdrop : (rowsD e (2 * z) m).drop (layR N rs).length = rowsD e (2 * z + U) (m - U) := by rw [hsplit, List.drop_left' rfl]
      exact ⟨by rw [b2.n]; exact hfit, hA, ⟨hlog.small, hlog.bound, by rw [hsplit]; simp, by rw [hdrop]; exact dead_next (.inr htrn)⟩, by rw [hdrop]; exact .inr htrn⟩
end Go.Proofs.YtmfchjbpbfkgiaaGreatDoor
