/- The reference's reader as memory holds it, and its methods by contracts: they do what the plain arithmetic says. Condition: the text is no longer than memory allows. -/
import Derived.Test.YtcahidhcnhgbeaaDoorWireB
import Derived.Deep.QuietTactic
import Derived.Deep.RegionHeld3
import Derived.Lib.Strings
namespace Go.Proofs.YtcahidhcnhgbeaaDoor
open Go Go.RowKit

/-- The place of a failure as the reference keeps it. -/
def badI : Option Nat → Int
  | none => -1
  | some b => b
/-- A reference's reader of T at block q, in the state st. -/
def RefAt (w : World) (q : Nat) (T : ByteArray) (st : St) : Prop :=
  w.heap[q]? = some (.cells #[.string T, .int .i64 (st.i : Int), .int .i64 (badI st.bad)] 49 (0, 0)) ∧ st.i ≤ T.size ∧ (st.bad ≠ none → st.i = T.size)
theorem RefAt.lt {w : World} {q : Nat} {T : ByteArray} {st : St} (h : RefAt w q T st) : q < w.heap.size := lt_of_block h.1
theorem RefAt.same {w w' : World} {q : Nat} {T : ByteArray} {st : St} (h : RefAt w q T st) (hq : w'.heap[q]? = w.heap[q]?) : RefAt w' q T st := ⟨hq.trans h.1, h.2⟩
theorem RefAt.kept {w w' : World} {q p' q' : Nat} {T : ByteArray} {st : St} (h : RefAt w q T st) (hc : Chg p' q' w w') (h1 : q ≠ p') (h2 : q ≠ q') : RefAt w' q T st := h.same (hc.block q h.lt h1 h2)
theorem RefAt.below {w w' : World} {q B : Nat} {T : ByteArray} {st : St} (h : RefAt w q T st) (hb : Below B w w') (h1 : q < B) : RefAt w' q T st := h.same (hb.block q h1)
theorem RefAt.alloc {w : World} {q : Nat} {T : ByteArray} {st : St} (h : RefAt w q T st) (x : Obj) : RefAt (w.alloc x) q T st := h.same (Below.heap_alloc w x q h.lt)
theorem RefAt.drewN {w : World} {q : Nat} {T : ByteArray} {st : St} (h : RefAt w q T st) (n : Nat) : RefAt (w.drewN n) q T st := h
theorem RefAt.drew {w : World} {q : Nat} {T : ByteArray} {st : St} (h : RefAt w q T st) : RefAt w.drew q T st := h
theorem RefAt.cells {w : World} {q : Nat} {T : ByteArray} {st : St} (h : RefAt w q T st) : w.cell? ⟨q, 0, none⟩ = some (.string T) ∧ w.cell? ⟨q, 1, none⟩ = some (.int .i64 (st.i : Int)) ∧ w.cell? ⟨q, 2, none⟩ = some (.int .i64 (badI st.bad)) ∧ (∀ i, w.frozen? ⟨q, i, none⟩ = false) ∧ q < w.heap.size :=
  ⟨cell_of_heap h.1 0, cell_of_heap h.1 1, cell_of_heap h.1 2, fun i => frozen_of_heap h.1 i, h.lt⟩

theorem rof_c (T : ByteArray) (w : World) :
    Calls Tryd.prog 18 #[.string T] w fun e w' => e = .returned (.pointer (some ⟨w.heap.size, 0, none⟩)) ∧ RefAt w' w.heap.size T ⟨0, none⟩ ∧ Below w.heap.size w w' := by
  go_enter Tryd.func18, Tryd.ntmps18
  go_wp2_with fail
  go_ret
  exact ⟨rfl, ⟨heap_alloc_new w _, Nat.zero_le _, fun h => absurd rfl h⟩, (Below.refl _ _).alloc (Nat.le_refl _) _⟩

/-- The reference fails at the place a: what was known of a failure is overwritten. -/
theorem rfail_c (q a : Nat) (T : ByteArray) (st : St) (w : World) (h : RefAt w q T st) :
    Calls Tryd.prog 34 #[.pointer (some ⟨q, 0, none⟩), .int .i64 (a : Int)] w fun e w' => e = .returned (.tuple #[]) ∧ RefAt w' q T ⟨T.size, some a⟩ ∧ Chg q q w w' := by
  obtain ⟨c0, c1, c2, cf, hl⟩ := h.cells
  have H := Lib.hid h; clear h
  go_enter Tryd.func34, Tryd.ntmps34
  go_wp2_with fail
  go_end0
  exact ⟨rfl, ⟨three_set1 (three_set2 H.out.1), Nat.le_refl _, fun _ => rfl⟩, ((Chg.refl q q w).setCell (.inl rfl) _).setCell (.inl rfl) _⟩

set_option maxHeartbeats 1600000 in
set_option maxRecDepth 100000 in
/-- Behind a failure nothing is read any more. -/
theorem rint_bad (q b : Nat) (T : ByteArray) (st : St) (w : World) (hb : st.bad = some b) (h : RefAt w q T st) :
    Calls Tryd.prog 20 #[.pointer (some ⟨q, 0, none⟩)] w fun e w' => e = .returned (.int .i64 0) ∧ RefAt w' q T st ∧ Chg q q w w' := by
  obtain ⟨c0, c1, c2, cf, hl⟩ := h.cells
  rw [hb] at c2
  have c2' : w.cell? ⟨q, 2, none⟩ = some (.int .i64 (b : Int)) := c2
  clear c2
  have H := Lib.hid h; clear h
  clear hb
  go_enter Tryd.func20, Tryd.ntmps20
  go_wp2_with fail
  go_ret
  exact ⟨rfl, H.out, Chg.refl _ _ _⟩

/-- The digit laid on by addition. -/
theorem add_value (k acc c : Nat) (hk : k ≤ 9) (h9 : 9 ≤ k → c % 128 ≤ 1) (h : acc < 128 ^ k) :
    ∃ U : Nat, U = acc + c % 128 * 128 ^ k ∧ U < 18446744073709551616 ∧ IntKind.u64.wrap ((acc : Int) + IntKind.u64.wrap ((c : Int) % 128 * 2 ^ (7 * k))) = (U : Int) ∧ (k = 9 → IntKind.u64.wrap ((acc : Int) + (c : Int) % 128 * 9223372036854775808) = (U : Int)) := by
  have hd := digit_fits k (c % 128) hk (by omega) h9
  have hU : acc + c % 128 * 128 ^ k < 18446744073709551616 := by
    rcases Nat.lt_or_ge k 9 with h' | h'
    · have h1 := acc_step k acc (c % 128) h (by omega)
      have hp : 128 ^ (k + 1) ≤ 128 ^ 9 := Nat.pow_le_pow_right (by decide) (by omega)
      have e9 : (128 : Nat) ^ 9 = 9223372036854775808 := by decide
      omega
    · obtain rfl : k = 9 := by omega
      have e9 : (128 : Nat) ^ 9 = 9223372036854775808 := by decide
      have hc := h9 (by omega)
      have : c % 128 * 128 ^ 9 ≤ 1 * 128 ^ 9 := Nat.mul_le_mul_right _ hc
      omega
  have e : (c : Int) % 128 * 2 ^ (7 * k) = ((c % 128 * 128 ^ k : Nat) : Int) := by rw [← pow7]; push_cast; rfl
  refine ⟨_, rfl, hU, ?_, fun h' => ?_⟩
  · rw [e, IntWalk.u64_in ((c % 128 * 128 ^ k : Nat) : Int) ⟨by omega, by omega⟩, IntWalk.u64_in _ ⟨by omega, by omega⟩]
    omega
  · subst h'
    have e2 : (c : Int) % 128 * 2 ^ (7 * 9) = (c : Int) % 128 * 9223372036854775808 := by rfl
    rw [← e2, e, IntWalk.u64_in _ ⟨by omega, by omega⟩]
    omega

theorem unfold_o {U : Nat} (h : U % 2 = 1) : unfoldI U = -((U : Int) / 2) - 1 := by unfold unfoldI; rw [if_pos (by omega)]
theorem unfold_e {U : Nat} (h : ¬ U % 2 = 1) : unfoldI U = (U : Int) / 2 := by unfold unfoldI; rw [if_neg (by omega)]
/-- A last digit, if there is an encoding. -/
theorem tail_some {L : List UInt8} {k acc U j : Nat} {n : Int} {b : UInt8} {r : List UInt8} (hd : dec L = some (n, j)) (hR : parseR L = fin k acc (decL k (b :: r))) (hU : U = acc + b.toNat % 128 * 128 ^ k) (h9 : ¬ (9 ≤ k ∧ 1 < b.toNat)) (hb : ¬ 128 ≤ b.toNat) :
    n = unfoldI U ∧ j = k + 1 ∧ enc n = L.take j := by
  obtain ⟨u, hp, _, hun, hj1, _⟩ := parse_of_some hd
  by_cases h0 : b.toNat = 0 ∧ 0 < k
  · rw [fin_zero h9 hb h0.1 h0.2, hp] at hR
    simp only [Prod.mk.injEq] at hR
    omega
  · rw [fin_last h9 hb h0, hp] at hR
    simp only [Prod.mk.injEq] at hR
    obtain ⟨h1, h2⟩ := hR
    refine ⟨by rw [← hun, h1, hU], h2, (enc_of_dec L n j hd).2.1⟩
theorem tail_none {L : List UInt8} {m : Nat} {n : Int} (hd : dec L = none) (hn : I64 n) : enc n ≠ L.take m := fun e => by
  have h := dec_of_enc n (L.drop m) hn
  rw [e, List.take_append_drop, hd] at h
  cases h
theorem slice_is (T : ByteArray) (i m : Nat) (_h : i + m ≤ T.size) : T.extract i (i + m) = ⟨((T.data.toList.drop i).take m).toArray⟩ := by
  apply ByteArray.ext
  apply Array.ext'
  rw [ByteArray.data_extract, Array.toList_extract, List.extract_eq_take_drop]
  simp

theorem cmp_eq {T : ByteArray} {i k : Nat} {e : List UInt8} (h : e = (T.data.toList.drop i).take (k + 1)) : (!e == (T.extract i (i + (k + 1))).toList) = false := by
  rw [Lib.extract_toList, show i + (k + 1) - i = k + 1 by omega, ← h]; simp
theorem cmp_ne {T : ByteArray} {i k : Nat} {e : List UInt8} (h : e ≠ (T.data.toList.drop i).take (k + 1)) : (!e == (T.extract i (i + (k + 1))).toList) = true := by
  rw [Lib.extract_toList, show i + (k + 1) - i = k + 1 by omega, beq_eq_false_iff_ne.2 h]; rfl
theorem dec_zero {L : List UInt8} (h : parseR L = (0, 0)) : dec L = none := by rw [dec_parse, h]; rfl
theorem ref_step {w : World} {q k : Nat} {T : ByteArray} {st : St} (h : RefAt w q T st) (hk : st.i + (k + 1) ≤ T.size) : RefAt (w.setCell ⟨q, 1, none⟩ (.int .i64 ((st.i : Int) + (k : Int) + 1))) q T ⟨st.i + (k + 1), st.bad⟩ := by
  refine ⟨?_, hk, fun hb => ?_⟩
  · have := three_set1 (x := .int .i64 ((st.i : Int) + (k : Int) + 1)) h.1
    rw [this, show (st.i : Int) + (k : Int) + 1 = ((st.i + (k + 1) : Nat) : Int) by omega]
  · have := h.2.2 hb
    have hk' : st.i + (k + 1) ≤ T.size := hk
    omega
theorem fail_bad {T : ByteArray} {st : St} (h : st.bad = none) : failS T st.i st = ⟨T.size, some st.i⟩ := by unfold failS; rw [h]; rfl

set_option maxHeartbeats 12000000 in
set_option maxRecDepth 100000 in
theorem rint_fine (q : Nat) (T : ByteArray) (st : St) (w : World) (hT : T.size ≤ 9223372036854775000) (hb : st.bad = none) (h : RefAt w q T st) :
    Calls Tryd.prog 20 #[.pointer (some ⟨q, 0, none⟩)] w fun e w' => e = .returned (.int .i64 ((intS T st).1.getD 0)) ∧ RefAt w' q T (intS T st).2 ∧ Chg q q w w' := by
  obtain ⟨c0, c1, c2, cf, hl⟩ := h.cells
  rw [hb] at c2
  have c2' : w.cell? ⟨q, 2, none⟩ = some (.int .i64 (-1)) := c2
  clear c2
  have hle := h.2.1
  have H := Lib.hid h; clear h
  have HB := Lib.hid hb; clear hb
  go_enter Tryd.func20, Tryd.ntmps20
  go_wp2_with fail
  have hst : Hid (parseR (T.data.toList.drop st.i) = fin 0 0 (decL 0 (T.data.toList.drop (st.i + 0)))) := rfl
  have hi0 : (0 : Int) ≤ (st.i : Int) := by omega
  have hi1 : (st.i : Int) ≤ (T.size : Int) := by omega
  have HC := Lib.hid (And.intro c0 (And.intro c1 c2')); clear c0 c1 c2'
  go_loopw [3, 4, 5] (fun u i c wr => ∃ k acc : Nat, k ≤ 9 ∧ st.i + k ≤ T.size ∧ i = .int .i64 k ∧ u = .int .u64 acc ∧ Hid (acc < 128 ^ k) ∧ Hid (parseR (T.data.toList.drop st.i) = fin k acc (decL k (T.data.toList.drop (st.i + k)))) ∧ RefAt wr q T st ∧ Chg q q w wr) (fun _ i _ _ => T.size - (intOf i).toNat)
  case atStart => exact ⟨0, 0, by omega, by omega, rfl, rfl, Lib.hid (by decide), hst, H.out, Chg.refl _ _ _⟩
  case round =>
    obtain ⟨k, acc, hk, hks, rfl, rfl, HA, HR, hr, hg⟩ := hrel
    clear hst
    obtain ⟨c0, c1, c2, cf, hl⟩ := hr.cells
    have hk10 : (k : Int) < 10 := by omega
    by_cases hlt : st.i + k < T.size
    · have hlt' : (st.i : Int) + (k : Int) < (T.size : Int) := by omega
      have hw1 : IntKind.i64.wrap ((st.i : Int) + (k : Int)) = (st.i : Int) + (k : Int) := IntWalk.i64_in _ (by omega)
      have hn0 : (0 : Int) ≤ (st.i : Int) + (k : Int) := by omega
      have htn : ((st.i : Int) + (k : Int)).toNat = st.i + k := by omega
      have hlL : st.i + k < T.data.toList.length := by simpa using hlt
      have hdc := drop_cons T.data.toList (st.i + k) hlL
      have hgg : T.data.toList[st.i + k]'hlL = T[st.i + k] := rfl
      rw [hgg] at hdc
      have HD : Hid (parseR (T.data.toList.drop st.i) = fin k acc (decL k (T[st.i + k] :: T.data.toList.drop (st.i + k + 1)))) := Lib.hid (by rw [HR.out, hdc])
      clear hdc hgg
      have hb256 : ((T[st.i + k]).toNat : Int) < 256 := by have := (T[st.i + k]).toNat_lt; omega
      have hr' := Lib.hid hr
      have hg' := Lib.hid hg
      clear hr hg
      by_cases hA9 : k = 9 ∧ 1 < (T[st.i + k]).toNat
      · have h63 : ((k : Int) == 9) = true := by rw [beq_iff_eq]; omega
        have hb1 : (1 : Int) < ((T[st.i + k]).toNat : Int) := by omega
        have hp0 : parseR (T.data.toList.drop st.i) = (0, 0) := by rw [HD.out, fin_nine (by omega) hA9.2]
        have HF := Lib.hid (intS_none (st := st) (dec_zero hp0))
        clear hA9 hp0
        go_wp2_with fail
        go_quiet (fail)
        go_wp2_with fail
        go_quiet (fail)
        go_wp2_with fail
        refine (rfail_c q st.i T st _ ((hr'.out).drewN _)).mono ?_
        rintro e w6 ⟨rfl, r6, g6⟩
        have r6' := Lib.hid r6
        have g6' := Lib.hid ((hg'.out.drewN _).trans g6 (.inl rfl))
        clear r6 g6 c0 c1 c2 cf
        go_wp2_with fail
        go_ret
        rw [HF.out]
        exact ⟨rfl, by rw [fail_bad HB.out]; exact r6'.out, g6'.out⟩
      · by_cases h128 : 128 ≤ (T[st.i + k]).toNat
        · obtain ⟨U, hU, hU64, hUw, hUw9⟩ := add_value k acc (T[st.i + k]).toNat hk (by omega) HA.out
          have h63 : ((k : Int) == 9) = false := by rw [beq_eq_false_iff_ne]; omega
          have hb2 : (128 : Int) ≤ ((T[st.i + k]).toNat : Int) := by omega
          have hk8 : k + 1 ≤ 9 := by omega
          have HU := Lib.hid hU
          have HN : Hid (parseR (T.data.toList.drop st.i) = fin (k + 1) U (decL (k + 1) (T.data.toList.drop (st.i + (k + 1))))) := Lib.hid (by rw [HD.out, fin_more (by omega) h128, hU]; rfl)
          have HL : Hid (U < 128 ^ (k + 1)) := Lib.hid (by rw [hU]; exact acc_step k acc _ HA.out (by omega))
          clear hUw9 hU hA9 h128
          go_wp2_with fail
          go_quiet (fail)
          go_wp2_with fail
          go_quiet (fail)
          go_wp2_with fail
          go_roundw
          case rel => exact ⟨k + 1, U, hk8, by omega, by go_num, rfl, HL, HN, hr'.out.drewN _, hg'.out.drewN _⟩
          case measure => simp [intOf]; omega
        · have HA9 : Hid (¬ (9 ≤ k ∧ 1 < (T[st.i + k]).toNat)) := Lib.hid (by omega)
          have H128 := Lib.hid h128
          obtain ⟨U, hU, hU64, hUw, hUw9⟩ := add_value k acc (T[st.i + k]).toNat hk (by omega) HA.out
          have HU := Lib.hid hU
          by_cases h9 : k = 9
          · have h63 : ((k : Int) == 9) = true := by rw [beq_iff_eq]; omega
            have hb1 : ((T[st.i + k]).toNat : Int) ≤ 1 := by omega
            have hb2 : ((T[st.i + k]).toNat : Int) < 128 := by omega
            clear hUw9 hU hA9 h9 h128
            by_cases hpar : U % 2 = 1
            · have hodd : ((U : Int) % 2 == 1) = true := by rw [beq_iff_eq]; omega
              have HP := Lib.hid hpar; clear hpar
              go_wp2_with fail
              go_quiet (fail)
              go_wp2_with fail
              go_quiet (fail)
              go_wp2_with fail
              rw [show -((U : Int) / 2) - 1 = unfoldI U from (unfold_o HP.out).symm]
              cases hd : dec (T.data.toList.drop st.i) with
              | none =>
                have hcmp : (!enc (unfoldI (U : Int)) == (T.extract st.i (st.i + (k + 1))).toList) = true := cmp_ne (tail_none hd (unfoldI_bd (U : Int) (by omega) (by omega)))
                have HF := Lib.hid (intS_none hd)
                clear hd
                have HUB := Lib.hid (unfoldI_bd (U : Int) (by omega) (by omega))
                have hw2 : IntKind.i64.wrap ((st.i : Int) + (k : Int) + 1) = (st.i : Int) + (k : Int) + 1 := IntWalk.i64_in _ (by omega)
                have hn1 : (st.i : Int) ≤ (st.i : Int) + (k : Int) + 1 := by omega
                have hn2 : (st.i : Int) + (k : Int) + 1 ≤ (T.size : Int) := by omega
                have htn2 : ((st.i : Int) + (k : Int) + 1).toNat = st.i + (k + 1) := by omega
                have HSS : Hid (∀ W : World, Below wr.heap.size wr W → (W.cell? ⟨q, 0, none⟩ = some (.string T) ∧ W.cell? ⟨q, 1, none⟩ = some (.int .i64 (st.i : Int)))) := Lib.hid fun W h => ⟨(h.cell (p := ⟨q, 0, none⟩) hl).trans c0, (h.cell (p := ⟨q, 1, none⟩) hl).trans c1⟩
                clear c0 c1 c2 cf
                go_region_held3 (fun W => W.cell? ⟨q, 0, none⟩ = some (.string T) ∧ W.cell? ⟨q, 1, none⟩ = some (.int .i64 (st.i : Int)))
                  (exact HSS.out _ (by (repeat' (first | (with_reducible exact Below.refl _ _) | (with_reducible refine below_drewN ?_ _) | (with_reducible refine Below.drew ?_) | (with_reducible refine Below.alloc ?_ ?_ _) | (with_reducible refine Below.setCell ?_ ?_ _) | (with_reducible refine Below.trans ?_ (Below.mono (by with_reducible assumption) ?_)) | omega | (simp only [Go.Proofs.YtcahidhcnhgbeaaDoor.World.size_drewN] at *; omega) | (with_reducible refine Below.size (B := 0) ?_)))))
                  (first | (go_at_call 9; (refine (rint_c (unfoldI (U : Int)) _ HUB.out).mono ?_); rintro e w5 ⟨rfl, hb5⟩))
                rename_i hS5
                clear hS5
                have K5 := Lib.hid (show Below wr.heap.size wr w5 from by (repeat' (first | (with_reducible exact Below.refl _ _) | (with_reducible refine below_drewN ?_ _) | (with_reducible refine Below.drew ?_) | (with_reducible refine Below.alloc ?_ ?_ _) | (with_reducible refine Below.setCell ?_ ?_ _) | (with_reducible refine Below.trans ?_ (Below.mono (by with_reducible assumption) ?_)) | omega | (simp only [Go.Proofs.YtcahidhcnhgbeaaDoor.World.size_drewN] at *; omega) | (with_reducible refine Below.size (B := 0) ?_))))
                have r5 := hr'.out.below K5.out hl
                obtain ⟨d0, d1, d2, df, dl⟩ := r5.cells
                have hR5 := Lib.hid r5
                clear r5 hb5
                go_wp2_with fail
                refine (rfail_c q st.i T st _ hR5.out).mono ?_
                rintro e w6 ⟨rfl, r6, g6⟩
                have r6' := Lib.hid r6
                have g6' := Lib.hid (hg'.out.trans ((Chg.of_below (K5.out.mono (Nat.le_refl _))).trans g6 (.inl rfl)) (.inl rfl))
                clear r6 g6
                go_wp2_with fail
                go_ret
                rw [HF.out]
                exact ⟨rfl, by rw [fail_bad HB.out]; exact r6'.out, g6'.out⟩
              | some pn =>
                obtain ⟨n, j⟩ := pn
                obtain ⟨rfl, rfl, hen⟩ := tail_some hd HD.out HU.out HA9.out H128.out
                have hcmp : (!enc (unfoldI (U : Int)) == (T.extract st.i (st.i + (k + 1))).toList) = false := cmp_eq hen
                have HF := Lib.hid (intS_some hd)
                clear hd hen
                have HUB := Lib.hid (unfoldI_bd (U : Int) (by omega) (by omega))
                have hw2 : IntKind.i64.wrap ((st.i : Int) + (k : Int) + 1) = (st.i : Int) + (k : Int) + 1 := IntWalk.i64_in _ (by omega)
                have hn1 : (st.i : Int) ≤ (st.i : Int) + (k : Int) + 1 := by omega
                have hn2 : (st.i : Int) + (k : Int) + 1 ≤ (T.size : Int) := by omega
                have htn2 : ((st.i : Int) + (k : Int) + 1).toNat = st.i + (k + 1) := by omega
                have HSS : Hid (∀ W : World, Below wr.heap.size wr W → (W.cell? ⟨q, 0, none⟩ = some (.string T) ∧ W.cell? ⟨q, 1, none⟩ = some (.int .i64 (st.i : Int)))) := Lib.hid fun W h => ⟨(h.cell (p := ⟨q, 0, none⟩) hl).trans c0, (h.cell (p := ⟨q, 1, none⟩) hl).trans c1⟩
                clear c0 c1 c2 cf
                go_region_held3 (fun W => W.cell? ⟨q, 0, none⟩ = some (.string T) ∧ W.cell? ⟨q, 1, none⟩ = some (.int .i64 (st.i : Int)))
                  (exact HSS.out _ (by (repeat' (first | (with_reducible exact Below.refl _ _) | (with_reducible refine below_drewN ?_ _) | (with_reducible refine Below.drew ?_) | (with_reducible refine Below.alloc ?_ ?_ _) | (with_reducible refine Below.setCell ?_ ?_ _) | (with_reducible refine Below.trans ?_ (Below.mono (by with_reducible assumption) ?_)) | omega | (simp only [Go.Proofs.YtcahidhcnhgbeaaDoor.World.size_drewN] at *; omega) | (with_reducible refine Below.size (B := 0) ?_)))))
                  (first | (go_at_call 9; (refine (rint_c (unfoldI (U : Int)) _ HUB.out).mono ?_); rintro e w5 ⟨rfl, hb5⟩))
                rename_i hS5
                clear hS5
                have K5 := Lib.hid (show Below wr.heap.size wr w5 from by (repeat' (first | (with_reducible exact Below.refl _ _) | (with_reducible refine below_drewN ?_ _) | (with_reducible refine Below.drew ?_) | (with_reducible refine Below.alloc ?_ ?_ _) | (with_reducible refine Below.setCell ?_ ?_ _) | (with_reducible refine Below.trans ?_ (Below.mono (by with_reducible assumption) ?_)) | omega | (simp only [Go.Proofs.YtcahidhcnhgbeaaDoor.World.size_drewN] at *; omega) | (with_reducible refine Below.size (B := 0) ?_))))
                have r5 := hr'.out.below K5.out hl
                obtain ⟨d0, d1, d2, df, dl⟩ := r5.cells
                have hR5 := Lib.hid r5
                clear r5 hb5
                go_wp2_with fail
                go_ret
                rw [HF.out]
                exact ⟨rfl, ref_step hR5.out (by omega), (hg'.out.trans (Chg.of_below K5.out) (.inl rfl)).setCell (.inl rfl) _⟩
            · have hodd : ((U : Int) % 2 == 1) = false := by rw [beq_eq_false_iff_ne]; omega
              have HP := Lib.hid hpar; clear hpar
              go_wp2_with fail
              go_quiet (fail)
              go_wp2_with fail
              go_quiet (fail)
              go_wp2_with fail
              rw [show (U : Int) / 2 = unfoldI U from (unfold_e HP.out).symm]
              cases hd : dec (T.data.toList.drop st.i) with
              | none =>
                have hcmp : (!enc (unfoldI (U : Int)) == (T.extract st.i (st.i + (k + 1))).toList) = true := cmp_ne (tail_none hd (unfoldI_bd (U : Int) (by omega) (by omega)))
                have HF := Lib.hid (intS_none hd)
                clear hd
                have HUB := Lib.hid (unfoldI_bd (U : Int) (by omega) (by omega))
                have hw2 : IntKind.i64.wrap ((st.i : Int) + (k : Int) + 1) = (st.i : Int) + (k : Int) + 1 := IntWalk.i64_in _ (by omega)
                have hn1 : (st.i : Int) ≤ (st.i : Int) + (k : Int) + 1 := by omega
                have hn2 : (st.i : Int) + (k : Int) + 1 ≤ (T.size : Int) := by omega
                have htn2 : ((st.i : Int) + (k : Int) + 1).toNat = st.i + (k + 1) := by omega
                have HSS : Hid (∀ W : World, Below wr.heap.size wr W → (W.cell? ⟨q, 0, none⟩ = some (.string T) ∧ W.cell? ⟨q, 1, none⟩ = some (.int .i64 (st.i : Int)))) := Lib.hid fun W h => ⟨(h.cell (p := ⟨q, 0, none⟩) hl).trans c0, (h.cell (p := ⟨q, 1, none⟩) hl).trans c1⟩
                clear c0 c1 c2 cf
                go_region_held3 (fun W => W.cell? ⟨q, 0, none⟩ = some (.string T) ∧ W.cell? ⟨q, 1, none⟩ = some (.int .i64 (st.i : Int)))
                  (exact HSS.out _ (by (repeat' (first | (with_reducible exact Below.refl _ _) | (with_reducible refine below_drewN ?_ _) | (with_reducible refine Below.drew ?_) | (with_reducible refine Below.alloc ?_ ?_ _) | (with_reducible refine Below.setCell ?_ ?_ _) | (with_reducible refine Below.trans ?_ (Below.mono (by with_reducible assumption) ?_)) | omega | (simp only [Go.Proofs.YtcahidhcnhgbeaaDoor.World.size_drewN] at *; omega) | (with_reducible refine Below.size (B := 0) ?_)))))
                  (first | (go_at_call 9; (refine (rint_c (unfoldI (U : Int)) _ HUB.out).mono ?_); rintro e w5 ⟨rfl, hb5⟩))
                rename_i hS5
                clear hS5
                have K5 := Lib.hid (show Below wr.heap.size wr w5 from by (repeat' (first | (with_reducible exact Below.refl _ _) | (with_reducible refine below_drewN ?_ _) | (with_reducible refine Below.drew ?_) | (with_reducible refine Below.alloc ?_ ?_ _) | (with_reducible refine Below.setCell ?_ ?_ _) | (with_reducible refine Below.trans ?_ (Below.mono (by with_reducible assumption) ?_)) | omega | (simp only [Go.Proofs.YtcahidhcnhgbeaaDoor.World.size_drewN] at *; omega) | (with_reducible refine Below.size (B := 0) ?_))))
                have r5 := hr'.out.below K5.out hl
                obtain ⟨d0, d1, d2, df, dl⟩ := r5.cells
                have hR5 := Lib.hid r5
                clear r5 hb5
                go_wp2_with fail
                refine (rfail_c q st.i T st _ hR5.out).mono ?_
                rintro e w6 ⟨rfl, r6, g6⟩
                have r6' := Lib.hid r6
                have g6' := Lib.hid (hg'.out.trans ((Chg.of_below (K5.out.mono (Nat.le_refl _))).trans g6 (.inl rfl)) (.inl rfl))
                clear r6 g6
                go_wp2_with fail
                go_ret
                rw [HF.out]
                exact ⟨rfl, by rw [fail_bad HB.out]; exact r6'.out, g6'.out⟩
              | some pn =>
                obtain ⟨n, j⟩ := pn
                obtain ⟨rfl, rfl, hen⟩ := tail_some hd HD.out HU.out HA9.out H128.out
                have hcmp : (!enc (unfoldI (U : Int)) == (T.extract st.i (st.i + (k + 1))).toList) = false := cmp_eq hen
                have HF := Lib.hid (intS_some hd)
                clear hd hen
                have HUB := Lib.hid (unfoldI_bd (U : Int) (by omega) (by omega))
                have hw2 : IntKind.i64.wrap ((st.i : Int) + (k : Int) + 1) = (st.i : Int) + (k : Int) + 1 := IntWalk.i64_in _ (by omega)
                have hn1 : (st.i : Int) ≤ (st.i : Int) + (k : Int) + 1 := by omega
                have hn2 : (st.i : Int) + (k : Int) + 1 ≤ (T.size : Int) := by omega
                have htn2 : ((st.i : Int) + (k : Int) + 1).toNat = st.i + (k + 1) := by omega
                have HSS : Hid (∀ W : World, Below wr.heap.size wr W → (W.cell? ⟨q, 0, none⟩ = some (.string T) ∧ W.cell? ⟨q, 1, none⟩ = some (.int .i64 (st.i : Int)))) := Lib.hid fun W h => ⟨(h.cell (p := ⟨q, 0, none⟩) hl).trans c0, (h.cell (p := ⟨q, 1, none⟩) hl).trans c1⟩
                clear c0 c1 c2 cf
                go_region_held3 (fun W => W.cell? ⟨q, 0, none⟩ = some (.string T) ∧ W.cell? ⟨q, 1, none⟩ = some (.int .i64 (st.i : Int)))
                  (exact HSS.out _ (by (repeat' (first | (with_reducible exact Below.refl _ _) | (with_reducible refine below_drewN ?_ _) | (with_reducible refine Below.drew ?_) | (with_reducible refine Below.alloc ?_ ?_ _) | (with_reducible refine Below.setCell ?_ ?_ _) | (with_reducible refine Below.trans ?_ (Below.mono (by with_reducible assumption) ?_)) | omega | (simp only [Go.Proofs.YtcahidhcnhgbeaaDoor.World.size_drewN] at *; omega) | (with_reducible refine Below.size (B := 0) ?_)))))
                  (first | (go_at_call 9; (refine (rint_c (unfoldI (U : Int)) _ HUB.out).mono ?_); rintro e w5 ⟨rfl, hb5⟩))
                rename_i hS5
                clear hS5
                have K5 := Lib.hid (show Below wr.heap.size wr w5 from by (repeat' (first | (with_reducible exact Below.refl _ _) | (with_reducible refine below_drewN ?_ _) | (with_reducible refine Below.drew ?_) | (with_reducible refine Below.alloc ?_ ?_ _) | (with_reducible refine Below.setCell ?_ ?_ _) | (with_reducible refine Below.trans ?_ (Below.mono (by with_reducible assumption) ?_)) | omega | (simp only [Go.Proofs.YtcahidhcnhgbeaaDoor.World.size_drewN] at *; omega) | (with_reducible refine Below.size (B := 0) ?_))))
                have r5 := hr'.out.below K5.out hl
                obtain ⟨d0, d1, d2, df, dl⟩ := r5.cells
                have hR5 := Lib.hid r5
                clear r5 hb5
                go_wp2_with fail
                go_ret
                rw [HF.out]
                exact ⟨rfl, ref_step hR5.out (by omega), (hg'.out.trans (Chg.of_below K5.out) (.inl rfl)).setCell (.inl rfl) _⟩
          · have h63 : ((k : Int) == 9) = false := by rw [beq_eq_false_iff_ne]; omega
            have hb2 : ((T[st.i + k]).toNat : Int) < 128 := by omega
            clear hUw9 hU hA9 h9 h128
            by_cases hpar : U % 2 = 1
            · have hodd : ((U : Int) % 2 == 1) = true := by rw [beq_iff_eq]; omega
              have HP := Lib.hid hpar; clear hpar
              go_wp2_with fail
              go_quiet (fail)
              go_wp2_with fail
              go_quiet (fail)
              go_wp2_with fail
              rw [show -((U : Int) / 2) - 1 = unfoldI U from (unfold_o HP.out).symm]
              cases hd : dec (T.data.toList.drop st.i) with
              | none =>
                have hcmp : (!enc (unfoldI (U : Int)) == (T.extract st.i (st.i + (k + 1))).toList) = true := cmp_ne (tail_none hd (unfoldI_bd (U : Int) (by omega) (by omega)))
                have HF := Lib.hid (intS_none hd)
                clear hd
                have HUB := Lib.hid (unfoldI_bd (U : Int) (by omega) (by omega))
                have hw2 : IntKind.i64.wrap ((st.i : Int) + (k : Int) + 1) = (st.i : Int) + (k : Int) + 1 := IntWalk.i64_in _ (by omega)
                have hn1 : (st.i : Int) ≤ (st.i : Int) + (k : Int) + 1 := by omega
                have hn2 : (st.i : Int) + (k : Int) + 1 ≤ (T.size : Int) := by omega
                have htn2 : ((st.i : Int) + (k : Int) + 1).toNat = st.i + (k + 1) := by omega
                have HSS : Hid (∀ W : World, Below wr.heap.size wr W → (W.cell? ⟨q, 0, none⟩ = some (.string T) ∧ W.cell? ⟨q, 1, none⟩ = some (.int .i64 (st.i : Int)))) := Lib.hid fun W h => ⟨(h.cell (p := ⟨q, 0, none⟩) hl).trans c0, (h.cell (p := ⟨q, 1, none⟩) hl).trans c1⟩
                clear c0 c1 c2 cf
                go_region_held3 (fun W => W.cell? ⟨q, 0, none⟩ = some (.string T) ∧ W.cell? ⟨q, 1, none⟩ = some (.int .i64 (st.i : Int)))
                  (exact HSS.out _ (by (repeat' (first | (with_reducible exact Below.refl _ _) | (with_reducible refine below_drewN ?_ _) | (with_reducible refine Below.drew ?_) | (with_reducible refine Below.alloc ?_ ?_ _) | (with_reducible refine Below.setCell ?_ ?_ _) | (with_reducible refine Below.trans ?_ (Below.mono (by with_reducible assumption) ?_)) | omega | (simp only [Go.Proofs.YtcahidhcnhgbeaaDoor.World.size_drewN] at *; omega) | (with_reducible refine Below.size (B := 0) ?_)))))
                  (first | (go_at_call 9; (refine (rint_c (unfoldI (U : Int)) _ HUB.out).mono ?_); rintro e w5 ⟨rfl, hb5⟩))
                rename_i hS5
                clear hS5
                have K5 := Lib.hid (show Below wr.heap.size wr w5 from by (repeat' (first | (with_reducible exact Below.refl _ _) | (with_reducible refine below_drewN ?_ _) | (with_reducible refine Below.drew ?_) | (with_reducible refine Below.alloc ?_ ?_ _) | (with_reducible refine Below.setCell ?_ ?_ _) | (with_reducible refine Below.trans ?_ (Below.mono (by with_reducible assumption) ?_)) | omega | (simp only [Go.Proofs.YtcahidhcnhgbeaaDoor.World.size_drewN] at *; omega) | (with_reducible refine Below.size (B := 0) ?_))))
                have r5 := hr'.out.below K5.out hl
                obtain ⟨d0, d1, d2, df, dl⟩ := r5.cells
                have hR5 := Lib.hid r5
                clear r5 hb5
                go_wp2_with fail
                refine (rfail_c q st.i T st _ hR5.out).mono ?_
                rintro e w6 ⟨rfl, r6, g6⟩
                have r6' := Lib.hid r6
                have g6' := Lib.hid (hg'.out.trans ((Chg.of_below (K5.out.mono (Nat.le_refl _))).trans g6 (.inl rfl)) (.inl rfl))
                clear r6 g6
                go_wp2_with fail
                go_ret
                rw [HF.out]
                exact ⟨rfl, by rw [fail_bad HB.out]; exact r6'.out, g6'.out⟩
              | some pn =>
                obtain ⟨n, j⟩ := pn
                obtain ⟨rfl, rfl, hen⟩ := tail_some hd HD.out HU.out HA9.out H128.out
                have hcmp : (!enc (unfoldI (U : Int)) == (T.extract st.i (st.i + (k + 1))).toList) = false := cmp_eq hen
                have HF := Lib.hid (intS_some hd)
                clear hd hen
                have HUB := Lib.hid (unfoldI_bd (U : Int) (by omega) (by omega))
                have hw2 : IntKind.i64.wrap ((st.i : Int) + (k : Int) + 1) = (st.i : Int) + (k : Int) + 1 := IntWalk.i64_in _ (by omega)
                have hn1 : (st.i : Int) ≤ (st.i : Int) + (k : Int) + 1 := by omega
                have hn2 : (st.i : Int) + (k : Int) + 1 ≤ (T.size : Int) := by omega
                have htn2 : ((st.i : Int) + (k : Int) + 1).toNat = st.i + (k + 1) := by omega
                have HSS : Hid (∀ W : World, Below wr.heap.size wr W → (W.cell? ⟨q, 0, none⟩ = some (.string T) ∧ W.cell? ⟨q, 1, none⟩ = some (.int .i64 (st.i : Int)))) := Lib.hid fun W h => ⟨(h.cell (p := ⟨q, 0, none⟩) hl).trans c0, (h.cell (p := ⟨q, 1, none⟩) hl).trans c1⟩
                clear c0 c1 c2 cf
                go_region_held3 (fun W => W.cell? ⟨q, 0, none⟩ = some (.string T) ∧ W.cell? ⟨q, 1, none⟩ = some (.int .i64 (st.i : Int)))
                  (exact HSS.out _ (by (repeat' (first | (with_reducible exact Below.refl _ _) | (with_reducible refine below_drewN ?_ _) | (with_reducible refine Below.drew ?_) | (with_reducible refine Below.alloc ?_ ?_ _) | (with_reducible refine Below.setCell ?_ ?_ _) | (with_reducible refine Below.trans ?_ (Below.mono (by with_reducible assumption) ?_)) | omega | (simp only [Go.Proofs.YtcahidhcnhgbeaaDoor.World.size_drewN] at *; omega) | (with_reducible refine Below.size (B := 0) ?_)))))
                  (first | (go_at_call 9; (refine (rint_c (unfoldI (U : Int)) _ HUB.out).mono ?_); rintro e w5 ⟨rfl, hb5⟩))
                rename_i hS5
                clear hS5
                have K5 := Lib.hid (show Below wr.heap.size wr w5 from by (repeat' (first | (with_reducible exact Below.refl _ _) | (with_reducible refine below_drewN ?_ _) | (with_reducible refine Below.drew ?_) | (with_reducible refine Below.alloc ?_ ?_ _) | (with_reducible refine Below.setCell ?_ ?_ _) | (with_reducible refine Below.trans ?_ (Below.mono (by with_reducible assumption) ?_)) | omega | (simp only [Go.Proofs.YtcahidhcnhgbeaaDoor.World.size_drewN] at *; omega) | (with_reducible refine Below.size (B := 0) ?_))))
                have r5 := hr'.out.below K5.out hl
                obtain ⟨d0, d1, d2, df, dl⟩ := r5.cells
                have hR5 := Lib.hid r5
                clear r5 hb5
                go_wp2_with fail
                go_ret
                rw [HF.out]
                exact ⟨rfl, ref_step hR5.out (by omega), (hg'.out.trans (Chg.of_below K5.out) (.inl rfl)).setCell (.inl rfl) _⟩
            · have hodd : ((U : Int) % 2 == 1) = false := by rw [beq_eq_false_iff_ne]; omega
              have HP := Lib.hid hpar; clear hpar
              go_wp2_with fail
              go_quiet (fail)
              go_wp2_with fail
              go_quiet (fail)
              go_wp2_with fail
              rw [show (U : Int) / 2 = unfoldI U from (unfold_e HP.out).symm]
              cases hd : dec (T.data.toList.drop st.i) with
              | none =>
                have hcmp : (!enc (unfoldI (U : Int)) == (T.extract st.i (st.i + (k + 1))).toList) = true := cmp_ne (tail_none hd (unfoldI_bd (U : Int) (by omega) (by omega)))
                have HF := Lib.hid (intS_none hd)
                clear hd
                have HUB := Lib.hid (unfoldI_bd (U : Int) (by omega) (by omega))
                have hw2 : IntKind.i64.wrap ((st.i : Int) + (k : Int) + 1) = (st.i : Int) + (k : Int) + 1 := IntWalk.i64_in _ (by omega)
                have hn1 : (st.i : Int) ≤ (st.i : Int) + (k : Int) + 1 := by omega
                have hn2 : (st.i : Int) + (k : Int) + 1 ≤ (T.size : Int) := by omega
                have htn2 : ((st.i : Int) + (k : Int) + 1).toNat = st.i + (k + 1) := by omega
                have HSS : Hid (∀ W : World, Below wr.heap.size wr W → (W.cell? ⟨q, 0, none⟩ = some (.string T) ∧ W.cell? ⟨q, 1, none⟩ = some (.int .i64 (st.i : Int)))) := Lib.hid fun W h => ⟨(h.cell (p := ⟨q, 0, none⟩) hl).trans c0, (h.cell (p := ⟨q, 1, none⟩) hl).trans c1⟩
                clear c0 c1 c2 cf
                go_region_held3 (fun W => W.cell? ⟨q, 0, none⟩ = some (.string T) ∧ W.cell? ⟨q, 1, none⟩ = some (.int .i64 (st.i : Int)))
                  (exact HSS.out _ (by (repeat' (first | (with_reducible exact Below.refl _ _) | (with_reducible refine below_drewN ?_ _) | (with_reducible refine Below.drew ?_) | (with_reducible refine Below.alloc ?_ ?_ _) | (with_reducible refine Below.setCell ?_ ?_ _) | (with_reducible refine Below.trans ?_ (Below.mono (by with_reducible assumption) ?_)) | omega | (simp only [Go.Proofs.YtcahidhcnhgbeaaDoor.World.size_drewN] at *; omega) | (with_reducible refine Below.size (B := 0) ?_)))))
                  (first | (go_at_call 9; (refine (rint_c (unfoldI (U : Int)) _ HUB.out).mono ?_); rintro e w5 ⟨rfl, hb5⟩))
                rename_i hS5
                clear hS5
                have K5 := Lib.hid (show Below wr.heap.size wr w5 from by (repeat' (first | (with_reducible exact Below.refl _ _) | (with_reducible refine below_drewN ?_ _) | (with_reducible refine Below.drew ?_) | (with_reducible refine Below.alloc ?_ ?_ _) | (with_reducible refine Below.setCell ?_ ?_ _) | (with_reducible refine Below.trans ?_ (Below.mono (by with_reducible assumption) ?_)) | omega | (simp only [Go.Proofs.YtcahidhcnhgbeaaDoor.World.size_drewN] at *; omega) | (with_reducible refine Below.size (B := 0) ?_))))
                have r5 := hr'.out.below K5.out hl
                obtain ⟨d0, d1, d2, df, dl⟩ := r5.cells
                have hR5 := Lib.hid r5
                clear r5 hb5
                go_wp2_with fail
                refine (rfail_c q st.i T st _ hR5.out).mono ?_
                rintro e w6 ⟨rfl, r6, g6⟩
                have r6' := Lib.hid r6
                have g6' := Lib.hid (hg'.out.trans ((Chg.of_below (K5.out.mono (Nat.le_refl _))).trans g6 (.inl rfl)) (.inl rfl))
                clear r6 g6
                go_wp2_with fail
                go_ret
                rw [HF.out]
                exact ⟨rfl, by rw [fail_bad HB.out]; exact r6'.out, g6'.out⟩
              | some pn =>
                obtain ⟨n, j⟩ := pn
                obtain ⟨rfl, rfl, hen⟩ := tail_some hd HD.out HU.out HA9.out H128.out
                have hcmp : (!enc (unfoldI (U : Int)) == (T.extract st.i (st.i + (k + 1))).toList) = false := cmp_eq hen
                have HF := Lib.hid (intS_some hd)
                clear hd hen
                have HUB := Lib.hid (unfoldI_bd (U : Int) (by omega) (by omega))
                have hw2 : IntKind.i64.wrap ((st.i : Int) + (k : Int) + 1) = (st.i : Int) + (k : Int) + 1 := IntWalk.i64_in _ (by omega)
                have hn1 : (st.i : Int) ≤ (st.i : Int) + (k : Int) + 1 := by omega
                have hn2 : (st.i : Int) + (k : Int) + 1 ≤ (T.size : Int) := by omega
                have htn2 : ((st.i : Int) + (k : Int) + 1).toNat = st.i + (k + 1) := by omega
                have HSS : Hid (∀ W : World, Below wr.heap.size wr W → (W.cell? ⟨q, 0, none⟩ = some (.string T) ∧ W.cell? ⟨q, 1, none⟩ = some (.int .i64 (st.i : Int)))) := Lib.hid fun W h => ⟨(h.cell (p := ⟨q, 0, none⟩) hl).trans c0, (h.cell (p := ⟨q, 1, none⟩) hl).trans c1⟩
                clear c0 c1 c2 cf
                go_region_held3 (fun W => W.cell? ⟨q, 0, none⟩ = some (.string T) ∧ W.cell? ⟨q, 1, none⟩ = some (.int .i64 (st.i : Int)))
                  (exact HSS.out _ (by (repeat' (first | (with_reducible exact Below.refl _ _) | (with_reducible refine below_drewN ?_ _) | (with_reducible refine Below.drew ?_) | (with_reducible refine Below.alloc ?_ ?_ _) | (with_reducible refine Below.setCell ?_ ?_ _) | (with_reducible refine Below.trans ?_ (Below.mono (by with_reducible assumption) ?_)) | omega | (simp only [Go.Proofs.YtcahidhcnhgbeaaDoor.World.size_drewN] at *; omega) | (with_reducible refine Below.size (B := 0) ?_)))))
                  (first | (go_at_call 9; (refine (rint_c (unfoldI (U : Int)) _ HUB.out).mono ?_); rintro e w5 ⟨rfl, hb5⟩))
                rename_i hS5
                clear hS5
                have K5 := Lib.hid (show Below wr.heap.size wr w5 from by (repeat' (first | (with_reducible exact Below.refl _ _) | (with_reducible refine below_drewN ?_ _) | (with_reducible refine Below.drew ?_) | (with_reducible refine Below.alloc ?_ ?_ _) | (with_reducible refine Below.setCell ?_ ?_ _) | (with_reducible refine Below.trans ?_ (Below.mono (by with_reducible assumption) ?_)) | omega | (simp only [Go.Proofs.YtcahidhcnhgbeaaDoor.World.size_drewN] at *; omega) | (with_reducible refine Below.size (B := 0) ?_))))
                have r5 := hr'.out.below K5.out hl
                obtain ⟨d0, d1, d2, df, dl⟩ := r5.cells
                have hR5 := Lib.hid r5
                clear r5 hb5
                go_wp2_with fail
                go_ret
                rw [HF.out]
                exact ⟨rfl, ref_step hR5.out (by omega), (hg'.out.trans (Chg.of_below K5.out) (.inl rfl)).setCell (.inl rfl) _⟩
    · have hlt' : ¬ (st.i : Int) + (k : Int) < (T.size : Int) := by omega
      have hw1 : IntKind.i64.wrap ((st.i : Int) + (k : Int)) = (st.i : Int) + (k : Int) := IntWalk.i64_in _ (by omega)
      have hp0 : parseR (T.data.toList.drop st.i) = (0, 0) := by rw [HR.out, List.drop_eq_nil_of_le (by simp; omega), fin_end]
      have HF := Lib.hid (intS_none (st := st) (dec_zero hp0))
      have hr' := Lib.hid hr
      have hg' := Lib.hid hg
      clear hp0 hr hg
      go_wp2_with fail
      go_quiet (fail)
      go_wp2_with fail
      refine (rfail_c q st.i T st _ ((hr'.out).drewN _)).mono ?_
      rintro e w6 ⟨rfl, r6, g6⟩
      have r6' := Lib.hid r6
      have g6' := Lib.hid ((hg'.out.drewN _).trans g6 (.inl rfl))
      clear r6 g6 c0 c1 c2 cf
      go_wp2_with fail
      go_ret
      rw [HF.out]
      exact ⟨rfl, by rw [fail_bad HB.out]; exact r6'.out, g6'.out⟩
end Go.Proofs.YtcahidhcnhgbeaaDoor
