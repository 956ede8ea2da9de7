/- The reference's reader by contracts: Text, Bool and Vec do what the plain arithmetic says. Condition: the text is no longer than memory allows. -/
import Derived.Test.YtcahidhcnhgbeaaDoorWireRR
namespace Go.Proofs.YtcahidhcnhgbeaaDoor
open Go Go.RowKit

theorem intS_bad {T : ByteArray} {st : St} {b : Nat} (hb : st.bad = some b) (hi : st.i = T.size) : intS T st = (none, st) := by
  have hd : dec (T.data.toList.drop st.i) = none := by
    rw [List.drop_eq_nil_of_le (by rw [hi]; simp)]; rfl
  rw [intS_none hd]
  unfold failS
  rw [hb]
  cases st
  simp only at hb hi
  subst hb hi
  rfl
theorem rint_any (q : Nat) (T : ByteArray) (st : St) (w : World) (hT : T.size ≤ 9223372036854775000) (h : RefAt w q T st) :
    Calls Tryd.prog 20 #[.pointer (some ⟨q, 0, none⟩)] w fun e w' => e = .returned (.int .i64 ((intS T st).1.getD 0)) ∧ RefAt w' q T (intS T st).2 ∧ Chg q q w w' := by
  cases hb : st.bad with
  | none => exact rint_fine q T st w hT hb h
  | some b =>
    rw [intS_bad hb (h.2.2 (by rw [hb]; simp))]
    exact rint_bad q b T st w hb h

theorem ref_move {w : World} {q m : Nat} {T : ByteArray} {st : St} (h : RefAt w q T st) (hk : st.i + m ≤ T.size) (hb : st.bad = none) : RefAt (w.setCell ⟨q, 1, none⟩ (.int .i64 ((st.i : Int) + (m : Int)))) q T ⟨st.i + m, st.bad⟩ :=
  ⟨three_set1 (x := .int .i64 ((st.i : Int) + (m : Int))) h.1, hk, fun h => absurd hb h⟩
/-- Behind a read that failed the state bears a failure, behind one that did not it bears none. -/
theorem intS_cases (T : ByteArray) (st : St) (h : st.bad ≠ none → st.i = T.size) : ((intS T st).1 = none ∧ (∃ b, (intS T st).2.bad = some b) ∧ (intS T st).2.i = T.size) ∨ (∃ n, (intS T st).1 = some n ∧ (intS T st).2.bad = none ∧ st.bad = none ∧ I64 n) := by
  cases hd : dec (T.data.toList.drop st.i) with
  | none =>
    rw [intS_none hd]
    refine .inl ⟨rfl, ?_, rfl⟩
    show ∃ b, st.bad.or (some st.i) = some b
    cases st.bad with
    | none => exact ⟨_, rfl⟩
    | some b => exact ⟨_, rfl⟩
  | some p =>
    obtain ⟨n, k⟩ := p
    rw [intS_some hd]
    have hb : st.bad = none := by
      cases hb : st.bad with
      | none => rfl
      | some b =>
        have hi := h (by rw [hb]; simp)
        rw [List.drop_eq_nil_of_le (by rw [hi]; simp)] at hd
        cases hd
    exact .inr ⟨n, rfl, hb, hb, (enc_of_dec _ n k hd).1⟩

set_option maxHeartbeats 1600000 in
set_option maxRecDepth 100000 in
theorem rbool_in (q : Nat) (T : ByteArray) (st : St) (w : World) (hT : T.size ≤ 9223372036854775000) (h : RefAt w q T st) :
    Calls Tryd.prog 26 #[.pointer (some ⟨q, 0, none⟩)] w fun e w' => e = .returned (.bool (boolS T st).1) ∧ RefAt w' q T (boolS T st).2 ∧ Chg q q w w' := by
  obtain ⟨c0, c1, c2, cf, hl⟩ := h.cells
  have hn := rint_any q T st w hT h
  rcases intS_cases T st h.2.2 with ⟨h1, ⟨b, h2⟩, _⟩ | ⟨n, h1, h2, h3, _⟩
  · rw [h1] at hn
    have HN := Lib.hid hn; clear hn
    have HB := Lib.hid (show boolS T st = (false, (intS T st).2) by unfold boolS; rw [h1])
    have H2 := Lib.hid h2
    clear h1 h2 h c0 c2 cf
    go_enter Tryd.func26, Tryd.ntmps26
    go_wp2_with fail
    refine HN.out.mono ?_
    rintro e w1 ⟨rfl, r1, g1⟩
    obtain ⟨d0, d1, d2, df, dl⟩ := r1.cells
    rw [H2.out] at d2
    have d2' : w1.cell? ⟨q, 2, none⟩ = some (.int .i64 (b : Int)) := d2
    have R1 := Lib.hid r1
    clear d2 r1
    go_wp2_with fail
    go_ret
    rw [HB.out]
    exact ⟨rfl, R1.out, g1⟩
  · rw [h1] at hn
    have HN := Lib.hid hn; clear hn
    have H2 := Lib.hid h2
    by_cases h01 : n = 0 ∨ n = 1
    · have HB := Lib.hid (show boolS T st = (n == 1, (intS T st).2) by unfold boolS; rw [h1]; simp only; rw [if_pos h01])
      clear h1 h2 h h3 c0 c2 cf
      rcases h01 with rfl | rfl
      all_goals
        go_enter Tryd.func26, Tryd.ntmps26
        go_wp2_with fail
        refine HN.out.mono ?_
        rintro e w1 ⟨rfl, r1, g1⟩
        obtain ⟨d0, d1, d2, df, dl⟩ := r1.cells
        rw [H2.out] at d2
        have d2' : w1.cell? ⟨q, 2, none⟩ = some (.int .i64 (-1)) := d2
        have R1 := Lib.hid r1
        clear d2 r1
        go_wp2_with fail
        go_ret
        rw [HB.out]
        exact ⟨rfl, R1.out, g1⟩
    · have HB := Lib.hid (show boolS T st = (false, failS T st.i (intS T st).2) by unfold boolS; rw [h1]; simp only; rw [if_neg h01])
      have e0 : (n != 0) = true := by rw [bne_iff_ne]; omega
      have e1 : (n != 1) = true := by rw [bne_iff_ne]; omega
      clear h1 h2 h h3 c0 c2 cf h01
      go_enter Tryd.func26, Tryd.ntmps26
      go_wp2_with fail
      refine HN.out.mono ?_
      rintro e w1 ⟨rfl, r1, g1⟩
      obtain ⟨d0, d1, d2, df, dl⟩ := r1.cells
      rw [H2.out] at d2
      have d2' : w1.cell? ⟨q, 2, none⟩ = some (.int .i64 (-1)) := d2
      have R1 := Lib.hid r1
      have G1 := Lib.hid g1
      clear d2 r1 g1
      go_wp2_with fail
      refine (rfail_c q st.i T _ _ R1.out).mono ?_
      rintro e w2 ⟨rfl, r2, g2⟩
      have R2 := Lib.hid r2
      have G2 := Lib.hid (G1.out.trans g2 (.inl rfl))
      clear r2 g2
      go_wp2_with fail
      go_ret
      rw [HB.out]
      exact ⟨rfl, by unfold failS; rw [H2.out]; exact R2.out, G2.out⟩

set_option maxHeartbeats 3200000 in
set_option maxRecDepth 100000 in
theorem rtext_in (q : Nat) (T : ByteArray) (most : Int) (st : St) (w : World) (hT : T.size ≤ 9223372036854775000) (h : RefAt w q T st) :
    Calls Tryd.prog 22 #[.pointer (some ⟨q, 0, none⟩), .int .i64 most] w fun e w' => e = .returned (.string (textS T most st).1) ∧ RefAt w' q T (textS T most st).2 ∧ Chg q q w w' := by
  obtain ⟨c0, c1, c2, cf, hl⟩ := h.cells
  have hn := rint_any q T st w hT h
  rcases intS_cases T st h.2.2 with ⟨h1, ⟨b, h2⟩, _⟩ | ⟨n, h1, h2, h3, h4⟩
  · rw [h1] at hn
    have HN := Lib.hid hn; clear hn
    have HB := Lib.hid (show textS T most st = (⟨#[]⟩, (intS T st).2) by unfold textS; rw [h1])
    have H2 := Lib.hid h2
    clear h1 h2 h c0 c2 cf
    go_enter Tryd.func22, Tryd.ntmps22
    go_wp2_with fail
    refine HN.out.mono ?_
    rintro e w1 ⟨rfl, r1, g1⟩
    obtain ⟨d0, d1, d2, df, dl⟩ := r1.cells
    rw [H2.out] at d2
    have d2' : w1.cell? ⟨q, 2, none⟩ = some (.int .i64 (b : Int)) := d2
    have R1 := Lib.hid r1
    clear d2 r1
    go_wp2_with fail
    go_ret
    rw [HB.out]
    exact ⟨rfl, R1.out, g1⟩
  · rw [h1] at hn
    have HN := Lib.hid hn; clear hn
    obtain ⟨st1, hst1⟩ : ∃ st1, (intS T st).2 = st1 := ⟨_, rfl⟩
    rw [hst1] at HN h2
    have H2 := Lib.hid h2
    by_cases hbad : n < 0 ∨ most < n ∨ (T.size : Int) - (st1.i : Int) < n
    · have HB := Lib.hid (show textS T most st = (⟨#[]⟩, failS T st.i st1) by unfold textS; rw [h1]; simp only [hst1]; rw [if_pos hbad])
      clear h1 h2 h h3 c0 c2 cf hst1
      by_cases hneg : n < 0
      · have b1 : decide (n < 0) = true := by simpa using hneg
        clear hbad
        go_enter Tryd.func22, Tryd.ntmps22
        go_wp2_with fail
        refine HN.out.mono ?_
        rintro e w1 ⟨rfl, r1, g1⟩
        obtain ⟨d0, d1, d2, df, dl⟩ := r1.cells
        rw [H2.out] at d2
        have d2' : w1.cell? ⟨q, 2, none⟩ = some (.int .i64 (-1)) := d2
        have hle1 := r1.2.1
        have hs0 : (0 : Int) ≤ (st1.i : Int) := by omega
        have hs1 : (st1.i : Int) ≤ (T.size : Int) := by omega
        have hws : IntKind.i64.wrap ((T.size : Int) - (st1.i : Int)) = (T.size : Int) - (st1.i : Int) := IntWalk.i64_in _ (by omega)
        have R1 := Lib.hid r1
        have G1 := Lib.hid g1
        clear d2 r1 g1
        go_wp2_with fail
        go_quiet (fail)
        go_wp2_with fail
        refine (rfail_c q st.i T _ _ (R1.out.drewN _)).mono ?_
        rintro e w2 ⟨rfl, r2, g2⟩
        have R2 := Lib.hid r2
        have G2 := Lib.hid ((G1.out.drewN _).trans g2 (.inl rfl))
        clear r2 g2
        go_wp2_with fail
        go_ret
        rw [HB.out]
        exact ⟨rfl, by unfold failS; rw [H2.out]; exact R2.out, G2.out⟩
      · have b1 : decide (n < 0) = false := by simpa using hneg
        by_cases hmost : most < n
        · have b2 : decide (most < n) = true := by simpa using hmost
          clear hbad
          go_enter Tryd.func22, Tryd.ntmps22
          go_wp2_with fail
          refine HN.out.mono ?_
          rintro e w1 ⟨rfl, r1, g1⟩
          obtain ⟨d0, d1, d2, df, dl⟩ := r1.cells
          rw [H2.out] at d2
          have d2' : w1.cell? ⟨q, 2, none⟩ = some (.int .i64 (-1)) := d2
          have hle1 := r1.2.1
          have hs0 : (0 : Int) ≤ (st1.i : Int) := by omega
          have hs1 : (st1.i : Int) ≤ (T.size : Int) := by omega
          have hws : IntKind.i64.wrap ((T.size : Int) - (st1.i : Int)) = (T.size : Int) - (st1.i : Int) := IntWalk.i64_in _ (by omega)
          have R1 := Lib.hid r1
          have G1 := Lib.hid g1
          clear d2 r1 g1
          go_wp2_with fail
          go_quiet (fail)
          go_wp2_with fail
          refine (rfail_c q st.i T _ _ (R1.out.drewN _)).mono ?_
          rintro e w2 ⟨rfl, r2, g2⟩
          have R2 := Lib.hid r2
          have G2 := Lib.hid ((G1.out.drewN _).trans g2 (.inl rfl))
          clear r2 g2
          go_wp2_with fail
          go_ret
          rw [HB.out]
          exact ⟨rfl, by unfold failS; rw [H2.out]; exact R2.out, G2.out⟩
        · have b2 : decide (most < n) = false := by simpa using hmost
          have hleft : (T.size : Int) - (st1.i : Int) < n := by omega
          have b3 : decide ((T.size : Int) - (st1.i : Int) < n) = true := by simpa using hleft
          clear hbad
          go_enter Tryd.func22, Tryd.ntmps22
          go_wp2_with fail
          refine HN.out.mono ?_
          rintro e w1 ⟨rfl, r1, g1⟩
          obtain ⟨d0, d1, d2, df, dl⟩ := r1.cells
          rw [H2.out] at d2
          have d2' : w1.cell? ⟨q, 2, none⟩ = some (.int .i64 (-1)) := d2
          have hle1 := r1.2.1
          have hs0 : (0 : Int) ≤ (st1.i : Int) := by omega
          have hs1 : (st1.i : Int) ≤ (T.size : Int) := by omega
          have hws : IntKind.i64.wrap ((T.size : Int) - (st1.i : Int)) = (T.size : Int) - (st1.i : Int) := IntWalk.i64_in _ (by omega)
          have R1 := Lib.hid r1
          have G1 := Lib.hid g1
          clear d2 r1 g1
          go_wp2_with fail
          go_quiet (fail)
          go_wp2_with fail
          refine (rfail_c q st.i T _ _ (R1.out.drewN _)).mono ?_
          rintro e w2 ⟨rfl, r2, g2⟩
          have R2 := Lib.hid r2
          have G2 := Lib.hid ((G1.out.drewN _).trans g2 (.inl rfl))
          clear r2 g2
          go_wp2_with fail
          go_ret
          rw [HB.out]
          exact ⟨rfl, by unfold failS; rw [H2.out]; exact R2.out, G2.out⟩
    · obtain ⟨m, rfl⟩ : ∃ m : Nat, n = (m : Int) := ⟨n.toNat, by omega⟩
      have HB := Lib.hid (show textS T most st = (T.extract st1.i (st1.i + m), ⟨st1.i + m, st1.bad⟩) by unfold textS; rw [h1]; simp only [hst1]; rw [if_neg hbad]; rfl)
      have hm1 : ¬ (m : Int) < 0 := by omega
      have hm2 : ¬ most < (m : Int) := by omega
      have hm3 : ¬ (T.size : Int) - (st1.i : Int) < (m : Int) := by omega
      have b1 : decide ((m : Int) < 0) = false := by simp
      have b2 : decide (most < (m : Int)) = false := by simpa using hm2
      have b3 : decide ((T.size : Int) - (st1.i : Int) < (m : Int)) = false := by simpa using hm3
      have hsum : (st1.i : Int) + (m : Int) ≤ (T.size : Int) := by omega
      have hws2 : IntKind.i64.wrap ((st1.i : Int) + (m : Int)) = (st1.i : Int) + (m : Int) := IntWalk.i64_in _ (by omega)
      have hws3 : IntKind.i64.wrap ((st1.i : Int) + (m : Int) - (m : Int)) = (st1.i : Int) := by rw [IntWalk.i64_in _ (by omega)]; omega
      clear h1 h2 h h3 c0 c2 cf hst1 hbad
      go_enter Tryd.func22, Tryd.ntmps22
      go_wp2_with fail
      refine HN.out.mono ?_
      rintro e w1 ⟨rfl, r1, g1⟩
      obtain ⟨d0, d1, d2, df, dl⟩ := r1.cells
      rw [H2.out] at d2
      have d2' : w1.cell? ⟨q, 2, none⟩ = some (.int .i64 (-1)) := d2
      have hle1 := r1.2.1
      have hs0 : (0 : Int) ≤ (st1.i : Int) := by omega
      have hs1 : (st1.i : Int) ≤ (T.size : Int) := by omega
      have hws : IntKind.i64.wrap ((T.size : Int) - (st1.i : Int)) = (T.size : Int) - (st1.i : Int) := IntWalk.i64_in _ (by omega)
      have R1 := Lib.hid r1
      have G1 := Lib.hid g1
      clear d2 r1 g1
      go_wp2_with fail
      go_quiet (fail)
      go_wp2_with fail
      have hv0 : IntKind.i64.wrap (st1.i : Int) = (st1.i : Int) := IntWalk.i64_in _ (by omega)
      have hv1 : (st1.i : Int) ≤ (st1.i : Int) + (m : Int) := by omega
      have hv2 : ((st1.i : Int) + (m : Int)).toNat = st1.i + m := by omega
      have hv3 : (0 : Int) ≤ (st1.i : Int) + (m : Int) - (m : Int) := by omega
      have hv4 : (st1.i : Int) + (m : Int) - (m : Int) ≤ (st1.i : Int) + (m : Int) := by omega
      go_quiet (fail)
      go_wp2_with fail
      go_ret
      rw [HB.out]
      exact ⟨rfl, (ref_move (R1.out.drewN _) (by omega) H2.out).drewN _, ((G1.out.drewN _).setCell (.inl rfl) _).drewN _⟩

/-- Between the reads of a vector: the reference's reader, the block of the result and that of the vector. -/
structure RInv (w : World) (q : Nat) (T : ByteArray) (W : World) (st : St) (a b c d : Int) : Prop where
  inn : RefAt W q T st
  chg : Chg q q w W
  old : q < w.heap.size
  res : W.heap[w.heap.size]? = some (.cells #[.int .i64 0, .int .i64 0, .int .i64 0, .int .i64 0] 29 (0, 0))
  vec : W.heap[w.heap.size + 1]? = some (.cells #[.int .i64 a, .int .i64 b, .int .i64 c, .int .i64 d] 29 (0, 0))
theorem RInv.start {w : World} {q : Nat} {T : ByteArray} {st : St} (h : RefAt w q T st) :
    RInv w q T ((w.alloc (.cells #[.int .i64 0, .int .i64 0, .int .i64 0, .int .i64 0] 29)).alloc (.cells #[.int .i64 0, .int .i64 0, .int .i64 0, .int .i64 0] 29)) st 0 0 0 0 := by
  have hn := heap_alloc_new (w.alloc (.cells #[.int .i64 0, .int .i64 0, .int .i64 0, .int .i64 0] 29)) (.cells #[.int .i64 0, .int .i64 0, .int .i64 0, .int .i64 0] 29)
  rw [World.size_alloc] at hn
  exact ⟨(h.alloc _).alloc _, ((Chg.refl q q w).alloc _).alloc _, h.lt, (Below.heap_alloc _ _ _ (by simp)).trans (heap_alloc_new w _), hn⟩
theorem RInv.call {w W W' : World} {q : Nat} {T : ByteArray} {st st' : St} {a b c d : Int} (h : RInv w q T W st a b c d) (h1 : RefAt W' q T st') (h2 : Chg q q W W') : RInv w q T W' st' a b c d := by
  have ho := h.old
  exact ⟨h1, h.chg.trans h2 (.inl rfl), ho, h2.row h.res (by omega) (by omega), h2.row h.vec (by omega) (by omega)⟩
theorem RInv.far {w W : World} {q i : Nat} {T : ByteArray} {st : St} {a b c d x : Int} (h : RInv w q T W st a b c d) : RefAt (W.setCell ⟨w.heap.size + 1, i, none⟩ (.int .i64 x)) q T st ∧ Chg q q w (W.setCell ⟨w.heap.size + 1, i, none⟩ (.int .i64 x)) ∧
    (W.setCell ⟨w.heap.size + 1, i, none⟩ (.int .i64 x)).heap[w.heap.size]? = some (.cells #[.int .i64 0, .int .i64 0, .int .i64 0, .int .i64 0] 29 (0, 0)) := by
  have ho := h.old
  exact ⟨h.inn.same (Below.heap_setCell _ _ _ _ (by simp; omega)), h.chg.setCell (.inr (.inr (by simp))) _, (Below.heap_setCell _ _ _ _ (by simp)).trans h.res⟩
theorem RInv.set0 {w W : World} {q : Nat} {T : ByteArray} {st : St} {a b c d x : Int} (h : RInv w q T W st a b c d) : RInv w q T (W.setCell ⟨w.heap.size + 1, 0, none⟩ (.int .i64 x)) st x b c d :=
  ⟨h.far.1, h.far.2.1, h.old, h.far.2.2, four_set0 h.vec⟩
theorem RInv.set1 {w W : World} {q : Nat} {T : ByteArray} {st : St} {a b c d x : Int} (h : RInv w q T W st a b c d) : RInv w q T (W.setCell ⟨w.heap.size + 1, 1, none⟩ (.int .i64 x)) st a x c d :=
  ⟨h.far.1, h.far.2.1, h.old, h.far.2.2, four_set1 h.vec⟩
theorem RInv.set2 {w W : World} {q : Nat} {T : ByteArray} {st : St} {a b c d x : Int} (h : RInv w q T W st a b c d) : RInv w q T (W.setCell ⟨w.heap.size + 1, 2, none⟩ (.int .i64 x)) st a b x d :=
  ⟨h.far.1, h.far.2.1, h.old, h.far.2.2, four_set2 h.vec⟩
theorem RInv.set3 {w W : World} {q : Nat} {T : ByteArray} {st : St} {a b c d x : Int} (h : RInv w q T W st a b c d) : RInv w q T (W.setCell ⟨w.heap.size + 1, 3, none⟩ (.int .i64 x)) st a b c x :=
  ⟨h.far.1, h.far.2.1, h.old, h.far.2.2, four_set3 h.vec⟩
theorem RInv.cellV {w W : World} {q : Nat} {T : ByteArray} {st : St} {a b c d : Int} (h : RInv w q T W st a b c d) :
    W.cell? ⟨w.heap.size + 1, 0, none⟩ = some (.int .i64 a) ∧ W.cell? ⟨w.heap.size + 1, 1, none⟩ = some (.int .i64 b) ∧ W.cell? ⟨w.heap.size + 1, 2, none⟩ = some (.int .i64 c) ∧ W.cell? ⟨w.heap.size + 1, 3, none⟩ = some (.int .i64 d) ∧ (∀ i, W.frozen? ⟨w.heap.size + 1, i, none⟩ = false) ∧ w.heap.size + 1 < W.heap.size :=
  ⟨cell_of_heap h.vec 0, cell_of_heap h.vec 1, cell_of_heap h.vec 2, cell_of_heap h.vec 3, fun i => frozen_of_heap h.vec i, lt_of_block h.vec⟩
theorem RInv.cellR {w W : World} {q : Nat} {T : ByteArray} {st : St} {a b c d : Int} (h : RInv w q T W st a b c d) :
    W.cell? ⟨w.heap.size, 0, none⟩ = some (.int .i64 0) ∧ W.cell? ⟨w.heap.size, 1, none⟩ = some (.int .i64 0) ∧ W.cell? ⟨w.heap.size, 2, none⟩ = some (.int .i64 0) ∧ W.cell? ⟨w.heap.size, 3, none⟩ = some (.int .i64 0) ∧ (∀ i, W.frozen? ⟨w.heap.size, i, none⟩ = false) :=
  ⟨cell_of_heap h.res 0, cell_of_heap h.res 1, cell_of_heap h.res 2, cell_of_heap h.res 3, fun i => frozen_of_heap h.res i⟩
theorem RInv.fin {w W : World} {q : Nat} {T : ByteArray} {st : St} {a b c d x0 x1 x2 x3 : Int} (h : RInv w q T W st a b c d) :
    RefAt ((((W.setCell ⟨w.heap.size, 0, none⟩ (.int .i64 x0)).setCell ⟨w.heap.size, 1, none⟩ (.int .i64 x1)).setCell ⟨w.heap.size, 2, none⟩ (.int .i64 x2)).setCell ⟨w.heap.size, 3, none⟩ (.int .i64 x3)) q T st ∧
      Chg q q w ((((W.setCell ⟨w.heap.size, 0, none⟩ (.int .i64 x0)).setCell ⟨w.heap.size, 1, none⟩ (.int .i64 x1)).setCell ⟨w.heap.size, 2, none⟩ (.int .i64 x2)).setCell ⟨w.heap.size, 3, none⟩ (.int .i64 x3)) := by
  have ho := h.old
  refine ⟨h.inn.same ?_, (((h.chg.setCell (.inr (.inr (by simp))) _).setCell (.inr (.inr (by simp))) _).setCell (.inr (.inr (by simp))) _).setCell (.inr (.inr (by simp))) _⟩
  rw [Below.heap_setCell _ _ _ _ (by simp; omega), Below.heap_setCell _ _ _ _ (by simp; omega), Below.heap_setCell _ _ _ _ (by simp; omega), Below.heap_setCell _ _ _ _ (by simp; omega)]
theorem rint_n (q : Nat) (T : ByteArray) (st st1 : St) (n : Int) (w : World) (hT : T.size ≤ 9223372036854775000) (h : RefAt w q T st) (h1 : (intS T st).2 = st1) (h2 : (intS T st).1.getD 0 = n) :
    Calls Tryd.prog 20 #[.pointer (some ⟨q, 0, none⟩)] w fun e w' => e = .returned (.int .i64 n) ∧ RefAt w' q T st1 ∧ Chg q q w w' := by
  have := rint_any q T st w hT h
  rwa [h1, h2] at this

set_option maxHeartbeats 6400000 in
set_option maxRecDepth 100000 in
theorem rvec_run (q : Nat) (T : ByteArray) (st st1 st2 st3 st4 : St) (n1 n2 n3 n4 : Int) (R : VecRun T st st1 st2 st3 st4 n1 n2 n3 n4) (X : Q4) (HX : Hid (X = if st4.bad.isSome then ⟨0, 0, 0, 0⟩ else ⟨n1, n2, n3, n4⟩)) (w : World) (hT : T.size ≤ 9223372036854775000) (h : RefAt w q T st) :
    Calls Tryd.prog 24 #[.pointer (some ⟨q, 0, none⟩)] w fun e w' => e = .returned (.agg #[.int .i64 X.a, .int .i64 X.b, .int .i64 X.c, .int .i64 X.d]) ∧ RefAt w' q T st4 ∧ Chg q q w w' := by
  have I0 := RInv.start h
  clear h
  go_enter Tryd.func24, Tryd.ntmps24
  go_wp2_with fail
  refine wp_loop_rounds 5 ?_
  rw [rounds_succ]
  go_wp2_with fail
  refine (rint_n q T _ st1 n1 _ hT I0.inn R.s1 R.n1).mono ?_
  rintro e w1 ⟨rfl, i1, g1⟩
  have I1 := I0.call i1 g1
  clear I0 i1 g1
  obtain ⟨v0, v1, v2, v3, vf, vl⟩ := I1.cellV
  go_wp2_with fail
  rw [rounds_succ]
  go_wp2_with fail
  clear v0 v1 v2 v3 vf
  have J1 := I1.set0 (x := n1)
  clear I1
  refine (rint_n q T _ st2 n2 _ hT J1.inn R.s2 R.n2).mono ?_
  rintro e w2 ⟨rfl, i2, g2⟩
  have I2 := J1.call i2 g2
  clear J1 i2 g2 vl
  obtain ⟨v0, v1, v2, v3, vf, vl⟩ := I2.cellV
  go_wp2_with fail
  rw [rounds_succ]
  go_wp2_with fail
  clear v0 v1 v2 v3 vf
  have J2 := I2.set1 (x := n2)
  clear I2
  refine (rint_n q T _ st3 n3 _ hT J2.inn R.s3 R.n3).mono ?_
  rintro e w3 ⟨rfl, i3, g3⟩
  have I3 := J2.call i3 g3
  clear J2 i3 g3 vl
  obtain ⟨v0, v1, v2, v3, vf, vl⟩ := I3.cellV
  go_wp2_with fail
  rw [rounds_succ]
  go_wp2_with fail
  clear v0 v1 v2 v3 vf
  have J3 := I3.set2 (x := n3)
  clear I3
  refine (rint_n q T _ st4 n4 _ hT J3.inn R.s4 R.n4).mono ?_
  rintro e w4 ⟨rfl, i4, g4⟩
  have I4 := J3.call i4 g4
  clear J3 i4 g4 vl
  obtain ⟨v0, v1, v2, v3, vf, vl⟩ := I4.cellV
  cases hb : st4.bad with
  | none =>
    have hx : X = ⟨n1, n2, n3, n4⟩ := by rw [HX.out, hb]; rfl
    obtain ⟨r0, r1, r2, r3, rf⟩ := I4.cellR
    have d2 : w4.cell? ⟨q, 2, none⟩ = some (.int .i64 (-1)) := by have := I4.inn.cells.2.2.1; rw [hb] at this; exact this
    have J4 := Lib.hid (I4.set3 (x := n4))
    have hq := I4.old
    clear I4 hb
    have HX2 := Lib.hid hx; clear hx HX
    go_wp2_with fail
    rw [rounds_succ]
    go_wp2_with fail
    rw [HX2.out]
    exact bodyPost_ret (v := .agg #[.int .i64 n1, .int .i64 n2, .int .i64 n3, .int .i64 n4]) (by simp [results, Tryd.results24, go_sem, r0, r1, r2, r3]) rfl ⟨rfl, J4.out.fin⟩
  | some b =>
    have hx : X = ⟨0, 0, 0, 0⟩ := by rw [HX.out, hb]; rfl
    obtain ⟨r0, r1, r2, r3, rf⟩ := I4.cellR
    have d2 : w4.cell? ⟨q, 2, none⟩ = some (.int .i64 (b : Int)) := by have := I4.inn.cells.2.2.1; rw [hb] at this; exact this
    have J4 := Lib.hid (I4.set3 (x := n4))
    have hq := I4.old
    clear I4 hb
    have HX2 := Lib.hid hx; clear hx HX
    go_wp2_with fail
    rw [rounds_succ]
    go_wp2_with fail
    rw [HX2.out]
    exact bodyPost_ret (v := .agg #[.int .i64 0, .int .i64 0, .int .i64 0, .int .i64 0]) (by simp [results, Tryd.results24, go_sem, r0, r1, r2, r3]) rfl ⟨rfl, J4.out.fin⟩

theorem rvec_in (q : Nat) (T : ByteArray) (st : St) (w : World) (hT : T.size ≤ 9223372036854775000) (h : RefAt w q T st) :
    Calls Tryd.prog 24 #[.pointer (some ⟨q, 0, none⟩)] w fun e w' => e = .returned (.agg #[.int .i64 (vecS T st).1.a, .int .i64 (vecS T st).1.b, .int .i64 (vecS T st).1.c, .int .i64 (vecS T st).1.d]) ∧ RefAt w' q T (vecS T st).2 ∧ Chg q q w w' := by
  obtain ⟨st1, st2, st3, st4, n1, n2, n3, n4, R, hV⟩ := VecRun.all T st
  have h2 : (vecS T st).2 = st4 := by rw [hV]
  rw [h2]
  exact rvec_run q T st st1 st2 st3 st4 n1 n2 n3 n4 R _ (Lib.hid (by rw [hV])) w hT h
end Go.Proofs.YtcahidhcnhgbeaaDoor
