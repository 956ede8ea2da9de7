/- The contract of package frame's Read: it returns what the plain arithmetic says. Conditions: the sentinels lie as the program's text lays them; the row is no longer than memory allows. -/
import Derived.Test.YtaibmdjcppeopaaGreatDoorFrE
namespace Go.Proofs.YtaibmdjcppeopaaGreatDoor
open Go Go.RowKit

theorem readP_at {l : List (List UInt8)} {b : List UInt8} {q n m : Nat} (h0 : l[0]? = some b) (h64 : b.length = 64) (hq : seqOf b = q) (hn : cntOf b = n) (hok : ¬ (q < 1 ∨ 2147483647 < q ∨ idxOf b ≠ 0 ∨ n < 1 ∨ 108 < n))
    (hg : ∀ k, k < m → goodAt l q n k = true) (hb : goodAt l q n m = false) (hm : m < n) : readP l = .error m := by
  have e : badFrom l q n n 0 = m := bad_at n 0 (by omega) (by omega) (fun j _ hj => hg j hj) hb
  unfold readP
  rw [h0]
  simp only [h64, hq, hn, e]
  rw [if_neg (by omega), if_neg hok, if_pos hm]
theorem readP_all {l : List (List UInt8)} {b : List UInt8} {q n : Nat} (h0 : l[0]? = some b) (h64 : b.length = 64) (hq : seqOf b = q) (hn : cntOf b = n) (hok : ¬ (q < 1 ∨ 2147483647 < q ∨ idxOf b ≠ 0 ∨ n < 1 ∨ 108 < n))
    (hg : ∀ k, k < n → goodAt l q n k = true) : readP l = match unpackF (joinF l n) with | none => .error 0 | some d => .ok (d, q, n) := by
  have e : badFrom l q n n 0 = n := by rw [bad_all n 0 (fun j _ hj => hg j (by omega))]; omega
  unfold readP
  rw [h0]
  simp only [h64, hq, hn, e]
  rw [if_neg (by omega), if_neg hok, if_neg (by omega)]
  rfl

theorem rows_take (l : List ByteArray) (n : Nat) : rows (l.take n) = (rows l).take n := by unfold rows; rw [List.map_take]
theorem join_take (l : List (List UInt8)) (n : Nat) : joinF (l.take n) n = joinF l n := by unfold joinF; rw [List.take_take, Nat.min_self]
theorem payloadOf_n (B c : Nat) (A : Option Addr) (l : List ByteArray) (n q : Nat) (w : World) (h : SRow w B A l) (hB : B ≤ w.heap.size) (h0 : 1 ≤ n) (h108 : n ≤ 108) (hg : ∀ k, k < n → goodAt (rows l) q n k = true) :
    Calls Tryz.prog 69 #[.slice A n c] w fun e w' => e = .returned (.string (bst (joinF (rows l) n))) ∧ Below w.heap.size w w' := by
  have hll : n ≤ l.length := by
    obtain ⟨b, hb, _⟩ := goodAt_iff.1 (hg (n - 1) (by omega))
    have := (List.getElem?_eq_some_iff.1 hb).1; rw [rows_len] at this; omega
  have hl : (l.take n).length = n := by simp; omega
  have h1 := payloadOf_c B c A (l.take n) w (h.take n) hB (by omega) (by omega) (fun b hb => by
    rw [rows_take] at hb
    obtain ⟨i, hi, e⟩ := List.mem_iff_getElem.1 hb
    have hi2 : i < n := by rw [List.length_take] at hi; omega
    obtain ⟨b', hb', h64, _⟩ := goodAt_iff.1 (hg i hi2)
    have : ((rows l).take n)[i]? = some b' := by rw [List.getElem?_take_of_lt hi2]; exact hb'
    rw [List.getElem?_eq_getElem hi, e] at this
    cases this; exact h64)
  rw [hl, rows_take, join_take] at h1
  exact h1

/-- What a round of Read's loop begins with. -/
def RRel (w : World) (F G q n : Nat) (l : List ByteArray) (i : Value) (wr : World) : Prop :=
  ∃ m : Nat, i = .int .i64 ((m : Int) + 1) ∧ m + 1 ≤ n ∧ (∀ k, k < m + 1 → goodAt (rows l) q n k = true) ∧ wr.heap[F]? = some (.cells #[.int .u32 (q : Int), .int .u32 0, .int .u32 (n : Int)] 91 (0, 0)) ∧
    wr.heap[G]? = some (.cells #[.int .u32 (q : Int), .int .u32 (m : Int), .int .u32 (n : Int)] 91 (0, 0)) ∧ Below w.heap.size w wr
theorem RRel.step {w wr w5 : World} {F G q n m : Nat} {l : List ByteArray} {T : Obj} (hm : m + 1 < n) (hg : ∀ k, k < m + 1 → goodAt (rows l) q n k = true) (hg1 : goodAt (rows l) q n (m + 1) = true)
    (hF : wr.heap[F]? = some (.cells #[.int .u32 (q : Int), .int .u32 0, .int .u32 (n : Int)] 91 (0, 0)))
    (hG : wr.heap[G]? = some (.cells #[.int .u32 (q : Int), .int .u32 (m : Int), .int .u32 (n : Int)] 91 (0, 0))) (hFG : F ≠ G) (hwG : w.heap.size ≤ G) (hb : Below w.heap.size w wr)
    (h5 : Below wr.heap.size (wr.setCell ⟨G, 1, none⟩ (.int .u32 ((m : Int) + 1))) w5) : RRel w F G q n l (.int .i64 ((m : Int) + 1 + 1)) (w5.alloc T) := by
  have lF := (Array.getElem?_eq_some_iff.1 hF).1
  have lG := (Array.getElem?_eq_some_iff.1 hG).1
  have hG1 := heap_setCell_same wr G 1 _ _ (.int .u32 ((m : Int) + 1)) hG
  have hF1 := (Below.heap_setCell wr ⟨G, 1, none⟩ (.int .u32 ((m : Int) + 1)) F hFG).trans hF
  have hb1 : Below w.heap.size w (wr.setCell ⟨G, 1, none⟩ (.int .u32 ((m : Int) + 1))) := hb.setCell hwG _
  have z1 : (wr.setCell ⟨G, 1, none⟩ (.int .u32 ((m : Int) + 1))).heap.size = wr.heap.size := by simp [World.setCell]
  have hF2 := (h5.block F lF).trans hF1
  have hG2 := (h5.block G lG).trans hG1
  refine ⟨m + 1, ret_v (by omega), by omega, fun k hk => ?_, ?_, ?_, ?_⟩
  · by_cases e : k = m + 1
    · subst e; exact hg1
    · exact hg k (by omega)
  · exact (Below.heap_alloc w5 T F (Array.getElem?_eq_some_iff.1 hF2).1).trans hF2
  · refine (Below.heap_alloc w5 T G (Array.getElem?_eq_some_iff.1 hG2).1).trans (hG2.trans ?_)
    rw [show ((m + 1 : Nat) : Int) = (m : Int) + 1 by omega]
    rfl
  · have := hb.size
    have h6 := h5.size
    rw [z1] at h6
    exact (hb1.trans (h5.mono this)).alloc (by omega) _

set_option maxHeartbeats 3200000 in
set_option maxRecDepth 100000 in
theorem read_loop (s : Nat → Addr) (B c : Nat) (A : Option Addr) (l : List ByteArray) (z : ByteArray) (q n : Nat) (w : World) (hs : Sent s w) (hl : l.length ≤ 9223372036854775807) (hc : l.length ≤ c) (h : SRow w B A l) (hB : B ≤ w.heap.size) (hi : l[0]? = some z) (hz : z.size = 64)
    (hq : seqOf z.data.toList = q) (hj : idxOf z.data.toList = 0) (hn : cntOf z.data.toList = n) (hok : ¬ (q < 1 ∨ 2147483647 < q ∨ (0 : Nat) ≠ 0 ∨ n < 1 ∨ 108 < n)) :
    Calls Tryz.prog 58 #[.slice A l.length c] w fun e w' => ReadV s w' e (readP (rows l)) ∧ Below w.heap.size w w' := by
  have h64 : z.data.toList.length = 64 := by rw [size_len]; exact hz
  obtain ⟨q4, j4, n4⟩ := seq_bd h64
  rw [hq] at q4
  rw [hn] at n4
  have hrow : (rows l)[0]? = some z.data.toList := by rw [rows_get, hi]; rfl
  have hok' : ¬ (q < 1 ∨ 2147483647 < q ∨ idxOf z.data.toList ≠ 0 ∨ n < 1 ∨ 108 < n) := by rw [hj]; exact hok
  have RA : Hid (∀ m, (∀ k, k < m → goodAt (rows l) q n k = true) → goodAt (rows l) q n m = false → m < n → readP (rows l) = .error m) := Lib.hid fun m a b d => readP_at hrow h64 hq hn hok' a b d
  have RB : Hid ((∀ k, k < n → goodAt (rows l) q n k = true) → readP (rows l) = match unpackF (joinF (rows l) n) with | none => .error 0 | some d => .ok (d, q, n)) := Lib.hid fun a => readP_all hrow h64 hq hn hok' a
  have hg0 : goodAt (rows l) q n 0 = true := by rw [good_vals hrow h64 (by omega) (by omega) (by omega), hq, hj, hn]; simp
  have HT := Lib.hid (trailerOf_yes B c A l 0 0 z q 0 n w rfl hl h hB hi hz hq hj hn)
  have hbg := Lib.hid (begB_yes hok)
  have HL := Lib.hid hl
  clear hq hj hn hrow hok' hi h64 hz
  have hE := eqT
  go_enter Tryz.func58, Tryz.ntmps58
  go_wp2_with fail
  refine (HT.out).mono ?_
  rintro e w1 ⟨rfl, b1⟩
  go_wp2_with fail
  refine (begins_c q 0 n _ (by omega) (by omega) (by omega)).mono ?_
  rw [hbg.out]
  rintro e w2 ⟨rfl, b2⟩
  have z2 := b2.size
  rw [World.size_alloc] at z2
  have F2 : w2.heap[w1.heap.size]? = some (.cells #[.int .u32 (q : Int), .int .u32 0, .int .u32 (n : Int)] 91 (0, 0)) := (b2.block w1.heap.size (by rw [World.size_alloc]; omega)).trans (heap_alloc_new w1 _)
  have c0 := cell_of_heap F2 0
  have c1 := cell_of_heap F2 1
  have c2 := cell_of_heap F2 2
  have B2 : Hid (Below w.heap.size w w2) := Lib.hid (by (repeat' (first | (with_reducible exact Below.refl _ _) | (with_reducible refine below_drewN ?_ _) | (with_reducible refine Below.drew ?_) | (with_reducible refine Below.alloc ?_ ?_ _) | (with_reducible refine Below.setCell ?_ ?_ _) | (with_reducible refine Below.trans ?_ (Below.mono (by with_reducible assumption) ?_)) | omega | (simp only [World.size_alloc] at *; omega) | (with_reducible refine Below.size (B := 0) ?_))))
  have Z1 := Lib.hid b1.size
  have HST : Hid (RRel w w1.heap.size w2.heap.size q n l (.int .i64 ((0 : Nat) + 1)) (w2.alloc (.cells #[.int .u32 (q : Int), .int .u32 0, .int .u32 (n : Int)] 91))) := Lib.hid
    ⟨0, rfl, by omega, fun k hk => by rw [show k = 0 by omega]; exact hg0, (Below.heap_alloc w2 _ _ (by omega)).trans F2, heap_alloc_new w2 _, B2.out.alloc B2.out.size _⟩
  clear b1 b2 F2
  go_wp2_with fail
  clear c0 c1 c2
  go_loopw [10] (fun i wr => RRel w w1.heap.size w2.heap.size q n l i wr) (fun i _ => n + 1 - (intOf i).toNat)
  case atStart => exact HST.out
  case round =>
    obtain ⟨m, rfl, hm, hg, hF, hG, hb⟩ := hrel
    clear HST hg0
    have lF := (Array.getElem?_eq_some_iff.1 hF).1
    have lG := (Array.getElem?_eq_some_iff.1 hG).1
    have hbz := hb.size
    by_cases hmn : m + 1 < n
    · have g1 := cell_of_heap hG 1
      have f1 := frozen_of_heap hG 1
      have mi : (m : Int) + 1 < (n : Int) := by omega
      have hG1 := heap_setCell_same wr w2.heap.size 1 _ _ (.int .u32 ((m : Int) + 1)) hG
      have hF1 := (Below.heap_setCell wr ⟨w2.heap.size, 1, none⟩ (.int .u32 ((m : Int) + 1)) w1.heap.size (show w1.heap.size ≠ w2.heap.size by omega)).trans hF
      have hb1 : Below w.heap.size w (wr.setCell ⟨w2.heap.size, 1, none⟩ (.int .u32 ((m : Int) + 1))) := hb.setCell (by show _ ≤ w2.heap.size; have := Z1.out; omega) _
      have s1 : SRow (wr.setCell ⟨w2.heap.size, 1, none⟩ (.int .u32 ((m : Int) + 1))) B A l := h.below hb1 hB
      have z1 : (wr.setCell ⟨w2.heap.size, 1, none⟩ (.int .u32 ((m : Int) + 1))).heap.size = wr.heap.size := by simp [World.setCell]
      by_cases hno : ∀ y, l[m + 1]? = some y → y.size ≠ 64
      · have hbad : goodAt (rows l) q n (m + 1) = false := good_no fun b hb' => by
          rw [rows_get] at hb'
          cases hy : l[m + 1]? with
          | none => rw [hy] at hb'; cases hb'
          | some y => rw [hy] at hb'; cases hb'; rw [size_len]; exact hno y hy
        have HC := Lib.hid (trailerOf_no B c A l ((m : Int) + 1) (m + 1) _ (by omega) HL.out s1 (by omega) hno)
        have HR := Lib.hid (RA.out (m + 1) hg hbad hmn)
        have HB := Lib.hid hb1
        clear hF hG hF1 hG1 hb hb1 s1 hno hg hbad
        go_wp2_with fail
        refine (HC.out).mono ?_
        rintro e w5 ⟨rfl, b5⟩
        have HB5 : Hid (Below w.heap.size w w5) := Lib.hid (HB.out.trans (b5.mono (by omega)))
        clear b5
        go_wp2_with fail
        refine (fault_i s ((m : Int) + 1) (m + 1) _ (by omega) (hs.below (B := w.heap.size) (HB5.out.alloc HB5.out.size _) (Nat.le_refl _))).mono ?_
        rintro e w6 ⟨⟨ev, rfl, hv⟩, b6⟩
        have HV := Lib.hid hv; clear hv
        have HB6 : Hid (Below w.heap.size w w6) := Lib.hid ((HB5.out.alloc HB5.out.size _).trans (b6.mono (by rw [World.size_alloc]; have := HB5.out.size; omega)))
        clear b6
        go_wp2_with fail
        refine bodyPost_ret (v := .tuple #[.string ⟨#[]⟩, .int .i64 0, .int .i64 0, ev]) (by simp [results, Tryz.results58, go_sem]) rfl ⟨?_, HB6.out⟩
        rw [HR.out]
        exact ⟨ev, rfl, HV.out⟩
      · obtain ⟨y, hy, hy64⟩ : ∃ y, l[m + 1]? = some y ∧ y.size = 64 := by
          cases e : l[m + 1]? with
          | none => exact absurd (fun y hy => by rw [e] at hy; cases hy) hno
          | some y => refine ⟨y, rfl, ?_⟩; exact Decidable.byContradiction fun k => hno fun y' hy' => by rw [e] at hy'; cases hy'; exact k
        obtain ⟨q', hq'⟩ : ∃ x, seqOf y.data.toList = x := ⟨_, rfl⟩
        obtain ⟨j', hj'⟩ : ∃ x, idxOf y.data.toList = x := ⟨_, rfl⟩
        obtain ⟨n', hn'⟩ : ∃ x, cntOf y.data.toList = x := ⟨_, rfl⟩
        have hgv := good_vals (l := rows l) (q := q) (n := n) (j := m + 1) (b := y.data.toList) (by rw [rows_get, hy]; rfl) (by rw [size_len]; exact hy64) q4 (by omega) n4
        rw [hq', hj', hn'] at hgv
        have HC := Lib.hid (trailerOf_yes B c A l ((m : Int) + 1) (m + 1) y q' j' n' _ (by omega) HL.out s1 (by omega) hy hy64 hq' hj' hn')
        have HS : Hid (goodAt (rows l) q n (m + 1) = true → ∀ w5 T, Below wr.heap.size (wr.setCell ⟨w2.heap.size, 1, none⟩ (.int .u32 ((m : Int) + 1))) w5 → RRel w w1.heap.size w2.heap.size q n l (.int .i64 ((m : Int) + 1 + 1)) (w5.alloc T)) := Lib.hid fun a w5 T h5 =>
          RRel.step hmn hg a hF hG (by omega) (by have := Z1.out; omega) hb h5
        have HR : Hid (goodAt (rows l) q n (m + 1) = false → readP (rows l) = .error (m + 1)) := Lib.hid fun a => RA.out (m + 1) hg a hmn
        have HB := Lib.hid hb1
        have HG1 := Lib.hid hG1
        have HGV := Lib.hid hgv
        clear hF hG hF1 hG1 hb hb1 s1 hno hg hq' hj' hn' hy hy64 hgv
        go_wp2_with fail
        refine (HC.out).mono ?_
        rintro e w5 ⟨rfl, b5⟩
        have HB5 : Hid (Below w.heap.size w w5) := Lib.hid (HB.out.trans (b5.mono (by omega)))
        have hG5 := (b5.block w2.heap.size (by omega)).trans HG1.out
        have k0 : w5.cell? ⟨w2.heap.size, 0, none⟩ = some (.int .u32 (q : Int)) := (cell_of_heap hG5 0)
        have k1 : w5.cell? ⟨w2.heap.size, 1, none⟩ = some (.int .u32 ((m : Int) + 1)) := (cell_of_heap hG5 1)
        have k2 : w5.cell? ⟨w2.heap.size, 2, none⟩ = some (.int .u32 (n : Int)) := (cell_of_heap hG5 2)
        have k5 : w2.heap.size < w5.heap.size := by have := b5.size; omega
        have HS5 := Lib.hid (fun a T => HS.out a w5 T (by rw [z1] at b5; exact b5))
        clear b5 hG5
        by_cases heq : goodAt (rows l) q n (m + 1) = true
        · have he := HGV.out
          rw [heq] at he
          have he2 := he.symm
          simp only [Bool.and_eq_true, decide_eq_true_eq] at he2
          obtain ⟨rfl, rfl, rfl⟩ := he2
          have HN := Lib.hid (HS5.out heq)
          clear he heq
          go_wp2_with fail
          go_roundw
          case rel => exact HN.out _
          case measure => simp [intOf]; omega
        · have hfa : goodAt (rows l) q n (m + 1) = false := by simpa using heq
          have hv := HGV.out
          rw [hfa] at hv
          have hE2 : ∀ W : World, (Op.equalIn 10000 91 (.agg #[.int .u32 (q' : Int), .int .u32 (j' : Int), .int .u32 (n' : Int)]) (.agg #[.int .u32 (q : Int), .int .u32 ((m : Int) + 1), .int .u32 (n : Int)])).run Tryz.prog W = .ok false W := fun W => by
            rw [hE]
            congr 1
            rw [hv, Bool.eq_iff_iff]
            simp only [Bool.and_eq_true, decide_eq_true_eq, beq_iff_eq]
            omega
          have HR2 := Lib.hid (HR.out hfa)
          clear hE hv hfa heq
          go_wp2_with fail
          refine (fault_i s ((m : Int) + 1) (m + 1) _ (by omega) (hs.below (B := w.heap.size) (HB5.out.alloc HB5.out.size _) (Nat.le_refl _))).mono ?_
          rintro e w6 ⟨⟨ev, rfl, hv⟩, b6⟩
          have HV := Lib.hid hv; clear hv
          have HB6 : Hid (Below w.heap.size w w6) := Lib.hid ((HB5.out.alloc HB5.out.size _).trans (b6.mono (by rw [World.size_alloc]; have := HB5.out.size; omega)))
          clear b6
          go_wp2_with fail
          refine bodyPost_ret (v := .tuple #[.string ⟨#[]⟩, .int .i64 0, .int .i64 0, ev]) (by simp [results, Tryz.results58, go_sem]) rfl ⟨?_, HB6.out⟩
          rw [HR2.out]
          exact ⟨ev, rfl, HV.out⟩
    · obtain rfl : n = m + 1 := by omega
      have HRB := Lib.hid (RB.out hg)
      have hll : m + 1 ≤ l.length := by
        obtain ⟨b, hb', _⟩ := goodAt_iff.1 (hg m (by omega))
        have := (List.getElem?_eq_some_iff.1 hb').1; rw [rows_len] at this; omega
      obtain ⟨ad, hA⟩ : ∃ ad, A = some ad := by
        obtain ⟨ad, e, _⟩ := h (by omega)
        exact ⟨ad, e⟩
      subst hA
      have HPY := Lib.hid (payloadOf_n B c (some ad) l (m + 1) q wr (h.below hb hB) (by omega) (by omega) (by omega) hg)
      have hjl := (good_row hg (m + 1) (Nat.le_refl _)).2
      have HUP : Hid (∀ W, Calls Tryz.prog 68 #[.string (bst (joinF (rows l) (m + 1)))] W fun e w' => e = .returned (unpV (unpackF (joinF (rows l) (m + 1)))) ∧ Below W.heap.size W w') := Lib.hid fun W =>
        unpack_c _ W (by rw [bst_size, hjl]; omega) (by rw [bst_size, hjl]; omega)
      have HB := Lib.hid hb
      have HF := Lib.hid hF
      have mc : (m : Int) + 1 ≤ (c : Int) := by omega
      have mc0 : ¬ c = 0 := by omega
      have mc1 : (0 : Int) ≤ (m : Int) + 1 := by omega
      clear hb hF hG hg RA RB hjl
      go_wp2_with fail
      refine (HPY.out).mono ?_
      rintro e w3 ⟨rfl, b3⟩
      have HB3 : Hid (Below w.heap.size w w3) := Lib.hid (HB.out.trans (b3.mono HB.out.size))
      have hF3 := (b3.block _ lF).trans HF.out
      have lF3 := (Array.getElem?_eq_some_iff.1 hF3).1
      have HF3 := Lib.hid hF3
      clear b3 hF3
      go_wp2_with fail
      refine (HUP.out _).mono ?_
      rintro e w4 ⟨rfl, b4⟩
      have HB4 : Hid (Below w.heap.size w w4) := Lib.hid (HB3.out.trans (b4.mono HB3.out.size))
      have hF4 := (b4.block _ lF3).trans HF3.out
      have f0 := cell_of_heap hF4 0
      have hz4 := HB4.out.size
      clear b4 hF4
      cases hu : unpackF (joinF (rows l) (m + 1)) with
      | none =>
        have HRB2 : Hid (readP (rows l) = .error 0) := Lib.hid (by rw [HRB.out, hu])
        clear hu
        rw [unpV_none]
        go_wp2_with fail
        refine (fault_i s 0 0 _ rfl (hs.below (B := w.heap.size) HB4.out (Nat.le_refl _))).mono ?_
        rintro e w6 ⟨⟨ev, rfl, hv⟩, b6⟩
        have HV := Lib.hid hv; clear hv
        have HB6 : Hid (Below w.heap.size w w6) := Lib.hid (HB4.out.trans (b6.mono HB4.out.size))
        clear b6
        go_wp2_with fail
        refine bodyPost_ret (v := .tuple #[.string ⟨#[]⟩, .int .i64 0, .int .i64 0, ev]) (by simp [results, Tryz.results58, go_sem]) rfl ⟨?_, HB6.out⟩
        rw [HRB2.out]
        exact ⟨ev, rfl, HV.out⟩
      | some d =>
        have HRB2 : Hid (readP (rows l) = .ok (d, q, m + 1)) := Lib.hid (by rw [HRB.out, hu])
        clear hu
        rw [unpV_some]
        go_wp2_with fail
        go_region
        all_goals go_wp2_with fail
        all_goals refine bodyPost_ret (v := .tuple #[.string (bst d), .int .i64 (q : Int), .int .i64 ((m + 1 : Nat) : Int), .nilIface]) (by simp [results, Tryz.results58, go_sem]) rfl ⟨?_, by first | exact HB4.out.drew | exact below_drewN HB4.out _ | exact HB4.out⟩
        all_goals rw [HRB2.out]
        all_goals exact rfl

/-- What Read returns, whatever the row. -/
theorem read_c (s : Nat → Addr) (B c : Nat) (A : Option Addr) (l : List ByteArray) (w : World) (hs : Sent s w) (hl : l.length ≤ 9223372036854775807) (hc : l.length ≤ c) (h : SRow w B A l) (hB : B ≤ w.heap.size) :
    Calls Tryz.prog 58 #[.slice A l.length c] w fun e w' => ReadV s w' e (readF (rows l)) ∧ Below w.heap.size w w' := by
  rw [← readP_eq]
  cases hi : l[0]? with
  | none =>
    have e : readP (rows l) = .error 0 := by unfold readP; rw [rows_get, hi]; rfl
    rw [e]
    exact read_none s B c A l w hs hl h hB fun z hz => by rw [hi] at hz; cases hz
  | some z =>
    have hrow : (rows l)[0]? = some z.data.toList := by rw [rows_get, hi]; rfl
    by_cases hz : z.size = 64
    · by_cases hbad : seqOf z.data.toList < 1 ∨ 2147483647 < seqOf z.data.toList ∨ idxOf z.data.toList ≠ 0 ∨ cntOf z.data.toList < 1 ∨ 108 < cntOf z.data.toList
      · have e : readP (rows l) = .error 0 := by
          unfold readP; rw [hrow]
          simp only []
          rw [if_neg (by rw [size_len]; omega), if_pos hbad]
        rw [e]
        exact read_begins s B c A l z _ _ _ w hs hl h hB hi hz rfl rfl rfl hbad
      · exact read_loop s B c A l z _ _ w hs hl hc h hB hi hz rfl (by omega) rfl (by omega)
    · have e : readP (rows l) = .error 0 := by
        unfold readP; rw [hrow]
        simp only []
        rw [if_pos (by rw [size_len]; exact hz)]
      rw [e]
      exact read_none s B c A l w hs hl h hB fun z' hz' => by rw [hi] at hz'; cases hz'; exact hz
end Go.Proofs.YtaibmdjcppeopaaGreatDoor
