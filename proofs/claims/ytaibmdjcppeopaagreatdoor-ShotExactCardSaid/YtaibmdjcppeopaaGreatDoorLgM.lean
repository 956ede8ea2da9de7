/- Plain arithmetic of logs: the records that follow a number. No program, no conditions. -/
import Derived.Test.YtaibmdjcppeopaaGreatDoorFrP
import Derived.Test.YtaibmdjcppeopaaGreatDoorFrT
namespace Go.Proofs.YtaibmdjcppeopaaGreatDoor
open Go

/-- A frame whose block k is torn over zeros, whatever stands behind it. -/
theorem torn_row {seq k t : Nat} {d : List UInt8} {l : List (List UInt8)} {b : List UInt8} (h1 : 1 ≤ seq) (h2 : seq ≤ 2147483647) (hd : d.length ≤ 6000) (hk : k < nblk d.length) (ht : t ≤ 64) (hb : (framesF seq d)[k]? = some b)
    (_hlen : nblk d.length ≤ l.length) (hlow : ∀ i, i < k → l[i]? = (framesF seq d)[i]?) (hat : l[k]? = some (tornB b t)) (hup : ∀ i, k < i → i < nblk d.length → l[i]? = some zeroF) :
    readF l = if tornB b t = b then (if k + 1 = nblk d.length then .ok (d, seq, nblk d.length) else .error (k + 1)) else .error k := by
  obtain ⟨n1, n2⟩ := nblk_bd hd
  have hP := payF_len d
  rw [framesF_get seq d k hk] at hb
  obtain rfl := Option.some.inj hb
  have hbl : (blkF seq (nblk d.length) (payF d) k).length = 64 := blkF_len hP hk
  have hbd : (blkF seq (nblk d.length) (payF d) k).drop 56 = trailF seq k (nblk d.length) := blkF_drop hP hk
  have s4 : seq < 256 ^ 4 := by rw [show (256 : Nat) ^ 4 = 4294967296 from rfl]; omega
  have hgl : ∀ j, j < k → goodAt l seq (nblk d.length) j = true := fun j hj => good_of ((hlow j hj).trans (framesF_get seq d j (by omega))) (blkF_len hP (by omega)) (blkF_drop hP (by omega))
  by_cases e : tornB (blkF seq (nblk d.length) (payF d) k) t = blkF seq (nblk d.length) (payF d) k
  · rw [if_pos e]
    rw [e] at hat
    by_cases hl : k + 1 = nblk d.length
    · rw [if_pos hl]
      have hx : l = framesF seq d ++ l.drop (nblk d.length) := by
        apply List.ext_getElem?
        intro i
        rcases Nat.lt_trichotomy i k with h | h | h
        · rw [hlow i h, List.getElem?_append_left (by rw [framesF_len]; omega)]
        · subst h; rw [hat, List.getElem?_append_left (by rw [framesF_len]; omega), framesF_get seq d i hk]
        · rw [List.getElem?_append_right (by rw [framesF_len]; omega), framesF_len, List.getElem?_drop, show nblk d.length + (i - nblk d.length) = i by omega]
      rw [hx]
      exact read_frames seq d _ h1 h2 hd
    · rw [if_neg hl]
      refine read_bad hP h1 h2 ⟨n1, n2⟩ ?_ (by omega) (fun j hj => ?_) ?_
      · by_cases h0 : k = 0
        · subst h0; exact hat
        · rw [hlow 0 (by omega)]; exact framesF_get seq d 0 (by omega)
      · by_cases hjk : j = k
        · subst hjk; exact good_of hat hbl hbd
        · exact hgl j (by omega)
      · have hz := hup (k + 1) (by omega) (by omega)
        unfold goodAt; rw [hz]
        have : (zeroF.drop 56 : List UInt8) = List.replicate 8 0 := by decide
        simp only [this, Bool.and_eq_false_iff, decide_eq_false_iff_not]
        exact .inr fun h => trail_not_zero h1 s4 h.symm
  · rw [if_neg e]
    by_cases h0 : k = 0
    · subst h0
      have ht62 : t ≤ 62 := by
        rcases Nat.lt_or_ge t 63 with h | h
        · omega
        · exfalso; apply e
          by_cases h64 : t = 64
          · subst h64; unfold tornB; rw [List.take_of_length_le (by omega)]; simp
          · obtain rfl : t = 63 := by omega
            refine split_at 63 (tornB_take hbl (Nat.le_refl _) (by omega)) ?_
            rw [tornB_low hbl (Nat.le_refl _) (by omega), show (blkF seq (nblk d.length) (payF d) 0).drop 63 = ((blkF seq (nblk d.length) (payF d) 0).drop 56).drop 7 by rw [List.drop_drop], hbd]
            unfold trailF
            rw [show (leB 4 seq ++ leB 2 0 ++ leB 2 (nblk d.length)).drop 7 = ((leB 4 seq ++ leB 2 0 ++ leB 2 (nblk d.length)).drop 6).drop 1 by rw [List.drop_drop], drop_appF (by rw [List.length_append, leB_len, leB_len])]
            show [0] = [UInt8.ofNat (nblk d.length / 256 % 256)]
            rw [show nblk d.length / 256 % 256 = 0 by omega]; rfl
      have hc : cntOf (tornB (blkF seq (nblk d.length) (payF d) 0) t) = 0 := by
        unfold cntOf; rw [tornB_low hbl ht62 (by omega)]; decide
      unfold readF
      rw [hat]
      simp only [tornB_len hbl ht, hc]
      rw [if_neg (by omega), if_pos (by omega)]
    · refine read_bad hP h1 h2 ⟨n1, n2⟩ (by rw [hlow 0 (by omega)]; exact framesF_get seq d 0 (by omega)) hk hgl ?_
      unfold goodAt; rw [hat]
      simp only [tornB_len hbl ht, Bool.and_eq_false_iff, decide_eq_false_iff_not]
      refine .inr fun h => ?_
      by_cases h56 : t ≤ 56
      · rw [tornB_low hbl h56 (by omega)] at h
        exact trail_not_zero h1 s4 h.symm
      · exact e (split_at 56 (tornB_take hbl (by omega) ht) (by rw [h, hbd]))

theorem readF_is {l : List (List UInt8)} {d : List UInt8} {q n : Nat} (h : readF l = .ok (d, q, n)) : 1 ≤ q ∧ q ≤ 2147483647 ∧ d.length ≤ 6000 ∧ n = nblk d.length ∧ l.take n = framesF q d := by
  unfold readF at h
  cases h0 : l[0]? with
  | none => rw [h0] at h; simp at h
  | some b =>
    rw [h0] at h
    simp only [] at h
    split at h
    · cases h
    · split at h
      · cases h
      · split at h
        · cases h
        · split at h
          · cases h
          · split at h
            · rename_i h1 h2 h3 h4 h5
              have hp : (List.take (valB (List.take 4 (joinF l (cntOf b)))) (List.drop 8 (joinF l (cntOf b))), seqOf b, cntOf b) = (d, q, n) := Except.ok.inj h
              simp only [Prod.mk.injEq] at hp
              obtain ⟨e1, e2, e3⟩ := hp
              subst e2; subst e3
              rw [e1] at h5
              have hd : d.length ≤ 6000 := by
                rw [← e1, List.length_take, List.length_drop]; omega
              refine ⟨by omega, by omega, hd, ?_, h5.symm⟩
              have hb := framesF_get (seqOf b) d 0 (by have := (nblk_bd hd).1; omega)
              rw [h5, List.getElem?_take_of_lt (by omega), h0] at hb
              have hbb := Option.some.inj hb
              have := (nblk_bd hd).2
              rw [hbb, trail_cnt (i := 0) (blkF_drop (payF_len d) (by have := (nblk_bd hd).1; omega)) (by rw [show (256 : Nat) ^ 2 = 65536 from rfl]; omega)]
            · cases h

/-- The record that follows the number b at the head of a row: its text, how many blocks. -/
def nextF (l : List (List UInt8)) (b : Nat) : Option (List UInt8 × Nat) :=
  match readF l with
  | .ok (d, q, n) => if q = b + 1 then some (d, n) else none
  | .error _ => none
theorem nextF_is {l : List (List UInt8)} {b n : Nat} {d : List UInt8} (h : nextF l b = some (d, n)) : b + 1 ≤ 2147483647 ∧ d.length ≤ 6000 ∧ n = nblk d.length ∧ l.take n = framesF (b + 1) d := by
  unfold nextF at h
  cases hr : readF l with
  | error k => rw [hr] at h; cases h
  | ok r =>
    obtain ⟨d', q, n'⟩ := r
    rw [hr] at h
    simp only [] at h
    split at h
    · rename_i hq
      have hp := Option.some.inj h
      simp only [Prod.mk.injEq] at hp
      obtain ⟨rfl, rfl⟩ := hp
      subst hq
      obtain ⟨h1, h2, h3, h4, h5⟩ := readF_is hr
      exact ⟨h2, h3, h4, h5⟩
    · cases h
theorem nextF_frames {b : Nat} {d : List UInt8} (rest : List (List UInt8)) (hb : b + 1 ≤ 2147483647) (hd : d.length ≤ 6000) : nextF (framesF (b + 1) d ++ rest) b = some (d, nblk d.length) := by
  unfold nextF; rw [read_frames (b + 1) d rest (by omega) hb hd]; simp
theorem nextF_none {b : Nat} {l : List (List UInt8)} {k : Nat} (h : readF l = .error k) : nextF l b = none := by unfold nextF; rw [h]
theorem readF_nil : readF [] = .error 0 := rfl
theorem readF_zero {l : List (List UInt8)} (h : l[0]? = some zeroF) : readF l = .error 0 := by
  unfold readF; rw [h]; rfl

/-- The blocks of records that follow the number b. -/
def layR : Nat → List (List UInt8) → List (List UInt8)
  | _, [] => []
  | b, d :: r => framesF (b + 1) d ++ layR (b + 1) r
theorem layR_app : ∀ (b : Nat) (r s : List (List UInt8)), layR b (r ++ s) = layR b r ++ layR (b + r.length) s
  | b, [], s => by simp [layR]
  | b, d :: r, s => by
    rw [List.cons_append, layR, layR, layR_app (b + 1) r s, List.append_assoc, List.length_cons, show b + 1 + r.length = b + (r.length + 1) by omega]
theorem layR_snoc (b : Nat) (r : List (List UInt8)) (d : List UInt8) : layR b (r ++ [d]) = layR b r ++ framesF (b + r.length + 1) d := by
  rw [layR_app, layR, layR, List.append_nil]
theorem layR_ge : ∀ (b : Nat) (r : List (List UInt8)), r.length ≤ (layR b r).length
  | _, [] => Nat.le_refl _
  | b, d :: r => by
    have := layR_ge (b + 1) r
    rw [layR, List.length_append, framesF_len, List.length_cons]
    have : 1 ≤ nblk d.length := by unfold nblk; omega
    omega

/-- rs are the records that follow the number b in the row l. -/
structure Follows (l : List (List UInt8)) (b : Nat) (rs : List (List UInt8)) : Prop where
  small : ∀ d ∈ rs, d.length ≤ 6000
  bound : b + rs.length ≤ 2147483647
  laid : l.take (layR b rs).length = layR b rs
  stop : nextF (l.drop (layR b rs).length) (b + rs.length) = none

/-- What is laid, and where nothing follows. -/
theorem follows_lay {b : Nat} {rs tail : List (List UInt8)} (hs : ∀ d ∈ rs, d.length ≤ 6000) (hb : b + rs.length ≤ 2147483647) (ht : nextF tail (b + rs.length) = none) : Follows (layR b rs ++ tail) b rs where
  small := hs
  bound := hb
  laid := by simp
  stop := by simpa using ht
theorem follows_cons {b : Nat} {d : List UInt8} {rs l : List (List UInt8)} (h : Follows l b (d :: rs)) : nextF l b = some (d, nblk d.length) ∧ Follows (l.drop (nblk d.length)) (b + 1) rs := by
  have hl := h.laid
  have hx : l = layR b (d :: rs) ++ l.drop (layR b (d :: rs)).length := by
    conv => lhs; rw [← List.take_append_drop (layR b (d :: rs)).length l, hl]
  have hbd := h.bound
  rw [List.length_cons] at hbd
  have hd : d.length ≤ 6000 := h.small d (by simp)
  have hx2 : l = framesF (b + 1) d ++ (layR (b + 1) rs ++ l.drop (layR b (d :: rs)).length) := by
    conv => lhs; rw [hx, layR, List.append_assoc]
    rw [layR]
  have hdr : l.drop (nblk d.length) = layR (b + 1) rs ++ l.drop (layR b (d :: rs)).length := by
    conv => lhs; rw [hx2]
    rw [List.drop_left' (framesF_len _ _)]
  refine ⟨by rw [hx2]; exact nextF_frames _ (by omega) hd, ?_⟩
  rw [hdr]
  have hst := h.stop
  rw [List.length_cons] at hst
  exact follows_lay (fun x hx => h.small x (by simp [hx])) (by omega) (by rw [show b + 1 + rs.length = b + (rs.length + 1) by omega]; exact hst)
theorem follows_nil {b : Nat} {l : List (List UInt8)} (h : Follows l b []) : nextF l b = none := by
  have := h.stop
  simpa [layR] using this
/-- One row, one answer. -/
theorem follows_uniq : ∀ {b : Nat} {rs ss l : List (List UInt8)}, Follows l b rs → Follows l b ss → rs = ss
  | _, [], [], _, _, _ => rfl
  | b, [], s :: ss, l, h, k => by have := (follows_cons k).1; rw [follows_nil h] at this; cases this
  | b, r :: rs, [], l, h, k => by have := (follows_cons h).1; rw [follows_nil k] at this; cases this
  | b, r :: rs, s :: ss, l, h, k => by
    obtain ⟨h1, h2⟩ := follows_cons h
    obtain ⟨k1, k2⟩ := follows_cons k
    have e := Option.some.inj (h1.symm.trans k1)
    simp only [Prod.mk.injEq] at e
    obtain ⟨rfl, _⟩ := e
    rw [follows_uniq h2 k2]
/-- One more record was read. -/
theorem lay_step {b n : Nat} {d : List UInt8} {rs l : List (List UInt8)} (h : l.take (layR b rs).length = layR b rs) (hn : nextF (l.drop (layR b rs).length) (b + rs.length) = some (d, n)) :
    l.take (layR b (rs ++ [d])).length = layR b (rs ++ [d]) ∧ (layR b (rs ++ [d])).length = (layR b rs).length + n ∧ d.length ≤ 6000 ∧ b + (rs ++ [d]).length ≤ 2147483647 ∧ 1 ≤ n ∧ n = nblk d.length := by
  obtain ⟨h1, h2, h3, h4⟩ := nextF_is hn
  have e : (layR b (rs ++ [d])).length = (layR b rs).length + n := by rw [layR_snoc, List.length_append, framesF_len, h3]
  refine ⟨?_, e, h2, by rw [List.length_append, List.length_singleton]; omega, by rw [h3]; exact (nblk_bd h2).1, h3⟩
  rw [e, layR_snoc, List.take_add, h, h4]

/-- What a torn frame reads as. -/
theorem torn_next {b k t : Nat} {d x : List UInt8} {T : List (List UInt8)} (hb : b + 1 ≤ 2147483647) (hd : d.length ≤ 6000) (hk : k < nblk d.length) (ht : t ≤ 64) (hx : (framesF (b + 1) d)[k]? = some x)
    (hlen : nblk d.length ≤ T.length) (hlow : ∀ i, i < k → T[i]? = (framesF (b + 1) d)[i]?) (hat : T[k]? = some (tornB x t)) (hup : ∀ i, k < i → i < nblk d.length → T[i]? = some zeroF) :
    nextF T b = if tornB x t = x ∧ k + 1 = nblk d.length then some (d, nblk d.length) else none := by
  unfold nextF
  rw [torn_row (by omega) hb hd hk ht hx hlen hlow hat hup]
  by_cases e : tornB x t = x
  · rw [if_pos e]
    by_cases h : k + 1 = nblk d.length
    · rw [if_pos h, if_pos ⟨e, h⟩]; simp
    · rw [if_neg h, if_neg (fun h' => h h'.2)]
  · rw [if_neg e, if_neg (fun h' => e h'.1)]
/-- After an Add whose write of block k was torn at t: the records that were there, and the new one if it is whole. -/
theorem keeps {b k t : Nat} {d x : List UInt8} {rs T : List (List UInt8)} (hs : ∀ e ∈ rs, e.length ≤ 6000) (hb : b + rs.length + 1 ≤ 2147483647) (hd : d.length ≤ 6000) (hk : k < nblk d.length) (ht : t ≤ 64) (hx : (framesF (b + rs.length + 1) d)[k]? = some x)
    (hlen : nblk d.length ≤ T.length) (hlow : ∀ i, i < k → T[i]? = (framesF (b + rs.length + 1) d)[i]?) (hat : T[k]? = some (tornB x t)) (hup : ∀ i, k < i → i < T.length → T[i]? = some zeroF) :
    Follows (layR b rs ++ T) b (if tornB x t = x ∧ k + 1 = nblk d.length then rs ++ [d] else rs) := by
  have hn := torn_next (b := b + rs.length) hb hd hk ht hx hlen hlow hat (fun i h1 h2 => hup i h1 (by omega))
  by_cases e : tornB x t = x ∧ k + 1 = nblk d.length
  · rw [if_pos e] at hn ⊢
    obtain ⟨_, _, _, h4⟩ := nextF_is hn
    have hT : T = framesF (b + rs.length + 1) d ++ T.drop (nblk d.length) := by
      conv => lhs; rw [← List.take_append_drop (nblk d.length) T, h4]
    rw [hT, ← List.append_assoc, ← layR_snoc]
    refine follows_lay (fun y hy => ?_) (by rw [List.length_append, List.length_singleton]; omega) ?_
    · rcases List.mem_append.1 hy with h | h
      · exact hs y h
      · rw [List.mem_singleton.1 h]; exact hd
    · by_cases hl : nblk d.length < T.length
      · exact nextF_none (readF_zero (by rw [List.getElem?_drop, Nat.add_zero]; exact hup _ (by omega) hl))
      · rw [List.drop_of_length_le (by omega)]; exact nextF_none readF_nil
  · rw [if_neg e] at hn ⊢
    exact follows_lay hs (by omega) hn
/-- Records and zeros behind them. -/
theorem follows_zeros {b m : Nat} {rs : List (List UInt8)} (hs : ∀ e ∈ rs, e.length ≤ 6000) (hb : b + rs.length ≤ 2147483647) : Follows (layR b rs ++ List.replicate m zeroF) b rs := by
  refine follows_lay hs hb ?_
  cases m with
  | zero => exact nextF_none readF_nil
  | succ m => exact nextF_none (readF_zero rfl)

/-- The checksum of zeros is not that of nothing. -/
theorem crc_zeros : ∀ k, k < 49 → crcN (List.replicate k 0) = 1 → k = 0 := by decide +kernel
theorem pay_head4 {d : List UInt8} (h : d.length < 256) : (payF d).take 4 = [UInt8.ofNat d.length, 0, 0, 0] := by
  unfold payF
  rw [List.append_assoc, List.append_assoc, take_app (leB_len 4 _)]
  simp only [leB]
  rw [Nat.mod_eq_of_lt h, show d.length / 256 = 0 by omega]
  rfl
theorem wiped4 {x : List UInt8} {c : UInt8} {t : Nat} (hx : x.take 4 = [c, 0, 0, 0]) (ht : 1 ≤ t) : (List.replicate t 0 ++ x.drop t).take 4 = List.replicate 4 0 := by
  have e : x = [c, 0, 0, 0] ++ x.drop 4 := by rw [← hx, List.take_append_drop]
  by_cases h4 : 4 ≤ t
  · rw [List.take_append_of_le_length (by simpa using h4), List.take_replicate, Nat.min_eq_left h4]
  · rw [e]
    obtain rfl | rfl | rfl : t = 1 ∨ t = 2 ∨ t = 3 := by omega
    all_goals simp [List.replicate]
/-- The first block of a log, torn by zeros: nothing follows, or nothing changed. -/
theorem wiped_first {b n t : Nat} {d x : List UInt8} {l : List (List UInt8)} (hb : b + 1 < 256) (hd : d.length ≤ 200) (hn : n = nblk d.length) (hx : x = blkF (b + 1) n (payF d) 0) (ht : t ≤ 64)
    (h0 : l[0]? = some (List.replicate t 0 ++ x.drop t)) : nextF l b = none ∨ List.replicate t 0 ++ x.drop t = x := by
  cases hr : nextF l b with
  | none => exact .inl rfl
  | some r =>
    right
    obtain ⟨e, m⟩ := r
    obtain ⟨_, he, hm, hl⟩ := nextF_is hr
    have hm1 : 1 ≤ m ∧ m ≤ 108 := by rw [hm]; exact nblk_bd he
    have hn1 : 1 ≤ n ∧ n ≤ 108 := by rw [hn]; exact nblk_bd (by omega)
    have hz : List.replicate t 0 ++ x.drop t = blkF (b + 1) m (payF e) 0 := by
      have := framesF_get (b + 1) e 0 (by omega)
      rw [← hl, List.getElem?_take_of_lt (by omega), h0, ← hm] at this
      exact Option.some.inj this
    have hpd : (payF d).length = 56 * n := by rw [payF_len, hn]
    have hpe : (payF e).length = 56 * m := by rw [payF_len, hm]
    have hxl : x.length = 64 := by rw [hx]; exact blkF_len hpd (by omega)
    have hxd : x.drop 56 = trailF (b + 1) 0 n := by rw [hx]; exact blkF_drop hpd (by omega)
    have hzd : (List.replicate t 0 ++ x.drop t).drop 56 = trailF (b + 1) 0 m := by rw [hz]; exact blkF_drop hpe (by omega)
    by_cases t0 : t = 0
    · subst t0; simp
    by_cases t56 : 56 < t
    · exfalso
      have h1 : ((List.replicate t 0 ++ x.drop t).drop 56)[0]? = some 0 := by
        rw [List.getElem?_drop, List.getElem?_append_left (by simp; omega)]; simp [t56]
      rw [hzd] at h1
      unfold trailF at h1
      simp only [leB, List.cons_append, List.getElem?_cons_zero] at h1
      have h2 := congrArg UInt8.toNat (Option.some.inj h1)
      rw [ofNat_toNat _ (by omega)] at h2
      have h3 : (0 : UInt8).toNat = 0 := rfl
      omega
    · have hzx : (List.replicate t 0 ++ x.drop t).drop 56 = x.drop 56 := by
        rw [List.drop_append, List.drop_of_length_le (by simp; omega), List.nil_append, List.drop_drop]
        congr 1; simp; omega
      have hnm : n = m := by
        have h1 := hzd.symm.trans (hzx.trans hxd)
        have h2 := congrArg (List.drop 6) h1
        unfold trailF at h2
        rw [drop_appF (by rw [List.length_append, leB_len, leB_len]), drop_appF (by rw [List.length_append, leB_len, leB_len])] at h2
        exact (leB_inj (by rw [show (256 : Nat) ^ 2 = 65536 from rfl]; omega) (by rw [show (256 : Nat) ^ 2 = 65536 from rfl]; omega) h2).symm
      have hx4 : x.take 4 = [UInt8.ofNat d.length, 0, 0, 0] := by
        rw [← pay_head4 (by omega), hx]
        unfold blkF
        rw [List.take_append_of_le_length (by simp; omega), List.take_take, Nat.mul_zero, List.drop_zero]
        rfl
      have hz4 := wiped4 hx4 (show 1 ≤ t by omega)
      have he0 : e.length = 0 := by
        have h1 := pay_head e he
        have h2 : (blkF (b + 1) m (payF e) 0).take 4 = (payF e).take 4 := by
          unfold blkF
          rw [List.take_append_of_le_length (by simp; omega), List.take_take, Nat.mul_zero, List.drop_zero]
          rfl
        rw [← h2, ← hz, hz4, val_zeros] at h1
        exact h1.symm
      obtain rfl : e = [] := List.length_eq_zero_iff.1 he0
      obtain rfl : m = 1 := hm
      subst hnm
      have hd48 : d.length ≤ 48 := by unfold nblk at hn; omega
      have bx : x = payF d ++ trailF (b + 1) 0 1 := by
        rw [hx]; unfold blkF; rw [Nat.mul_zero, List.drop_zero, List.take_of_length_le (by omega)]
      have bz : blkF (b + 1) 1 (payF []) 0 = payF [] ++ trailF (b + 1) 0 1 := by
        unfold blkF; rw [Nat.mul_zero, List.drop_zero, List.take_of_length_le (by omega)]
      rw [bz] at hz
      have t4 : t ≤ 4 := by
        rcases Nat.lt_or_ge 4 t with h | h
        · exfalso
          have h1 : (List.replicate t 0 ++ x.drop t)[4]? = some 0 := by rw [List.getElem?_append_left (by simp; omega)]; simp [h]
          rw [hz, List.getElem?_append_left (by omega)] at h1
          exact absurd h1 (by decide +kernel)
        · exact h
      have hdz : (List.replicate t 0 ++ x.drop t).drop 4 = x.drop 4 := by
        rw [List.drop_append, List.drop_of_length_le (by simp; omega), List.nil_append, List.drop_drop]
        congr 1; simp; omega
      have hpp : (payF d).drop 4 = (payF []).drop 4 := by
        have h1 := hdz
        rw [hz, bx, List.drop_append_of_le_length (by omega), List.drop_append_of_le_length (by omega)] at h1
        exact (List.append_cancel_right h1).symm
      have hp2 : leB 4 (crcN d) ++ (d ++ List.replicate (56 * nblk d.length - (d.length + 8)) 0) = leB 4 1 ++ List.replicate 48 0 := by
        have h1 : (payF d).drop 4 = leB 4 (crcN d) ++ (d ++ List.replicate (56 * nblk d.length - (d.length + 8)) 0) := by
          unfold payF; rw [List.append_assoc, List.append_assoc, drop_appF (leB_len 4 _)]
        rw [← h1, hpp]; decide +kernel
      have hcr : crcN d = 1 := leB_inj (crcN_lt d) (by decide) (List.append_inj_left hp2 (by rw [leB_len, leB_len]))
      have hdd : d = List.replicate d.length 0 := (List.append_eq_replicate_iff.1 (List.append_inj_right hp2 (by rw [leB_len, leB_len]))).2.1
      rw [hdd] at hcr
      have hk0 := crc_zeros d.length (by omega) hcr
      refine split_at 4 ?_ hdz
      rw [hz4, hx4, hk0]; rfl
end Go.Proofs.YtaibmdjcppeopaaGreatDoor
