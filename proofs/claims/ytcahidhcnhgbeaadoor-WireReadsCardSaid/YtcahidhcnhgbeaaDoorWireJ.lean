/- Contracts of the reader's methods. Conditions: the sentinels lie as the program's text lays them; the text is no longer than memory allows. -/
import Derived.Test.YtcahidhcnhgbeaaDoorWireI
import Derived.Shelf.LaysM
import Derived.Shelf.Strconv.Clone
namespace Go.Proofs.YtcahidhcnhgbeaaDoor
open Go Go.RowKit

/-- The library's copy of a string: the same bytes; nothing old has turned. -/
theorem clone_lib (s : ByteArray) (w : World) (hlim : s.size ≤ 281474976710656) :
    Calls Tryd.prog 42 #[.string s] w fun e w' => e = .returned (.string s) ∧ Below w.heap.size w w' :=
  Any.stringslite_Clone (P := Tryd.prog) (ρ := ⟨fun | 316 => 42 | n => n, fun | 9 => 9 | 3 => 3 | 4 => 4 | 37 => 25 | 0 => 0 | 127 => 98 | 5 => 5 | n => n, fun | n => n⟩) {
    mixed := by kernel_rfl
    f316 := Tryd.func42.trans (congrArg some (by kernel_rfl))
    t0 := Tryd.underlying0
    a0 := Tryd.isAgg0
    z0 := Tryd.sizeOf0
    v0 := Tryd.zeroValue0
    t3 := Tryd.underlying3
    a3 := Tryd.isAgg3
    z3 := Tryd.sizeOf3
    v3 := Tryd.zeroValue3
    t4 := Tryd.underlying4
    a4 := Tryd.isAgg4
    z4 := Tryd.sizeOf4
    v4 := Tryd.zeroValue4
    t9 := Tryd.underlying9
    a9 := Tryd.isAgg9
    z9 := Tryd.sizeOf9
    v9 := Tryd.zeroValue9
    t37 := Tryd.underlying25
    a37 := Tryd.isAgg25
    z37 := Tryd.sizeOf25
    v37 := Tryd.zeroValue25
    t127 := Tryd.underlying98
    a127 := Tryd.isAgg98
    z127 := Tryd.sizeOf98
    v127 := Tryd.zeroValue98
    t5 := Tryd.underlying5
    a5 := Tryd.isAgg5
    z5 := Tryd.sizeOf5
    v5 := Tryd.zeroValue5
    i0 := by kernel_rfl
    i3 := by kernel_rfl
    i4 := by kernel_rfl
    i5 := by kernel_rfl
    i9 := by kernel_rfl
    i37 := by kernel_rfl
    i127 := by kernel_rfl } s w hlim

theorem clone_c (s : ByteArray) (w : World) (hlim : s.size ≤ 281474976710656) :
    Calls Tryd.prog 36 #[.string s] w fun e w' => e = .returned (.string s) ∧ Below w.heap.size w w' := by
  go_enter Tryd.func36, Tryd.ntmps36
  go_wp2_with fail
  refine (clone_lib s _ hlim).mono ?_
  rintro e w1 ⟨rfl, hb⟩
  go_wp2_with fail
  go_ret
  exact ⟨rfl, hb⟩

/-- What is known of the package variables lies below block B. -/
def SentB (s : Nat → Addr) (B : Nat) (w : World) : Prop := ∃ W0, Sent s W0 ∧ W0.heap.size ≤ B ∧ Below W0.heap.size W0 w
theorem SentB.of {s : Nat → Addr} {B : Nat} {W0 w : World} (h : Sent s W0) (hb : Below W0.heap.size W0 w) (hB : W0.heap.size ≤ B) : SentB s B w := ⟨W0, h, hB, hb⟩
theorem SentB.sent {s : Nat → Addr} {B : Nat} {w : World} (h : SentB s B w) : Sent s w := by
  obtain ⟨W0, h1, h2, h3⟩ := h; exact h1.below h3 (Nat.le_refl _)
theorem SentB.mono {s : Nat → Addr} {B B' : Nat} {w : World} (h : SentB s B w) (hB : B ≤ B') : SentB s B' w := by
  obtain ⟨W0, h1, h2, h3⟩ := h; exact ⟨W0, h1, by omega, h3⟩
theorem SentB.chg {s : Nat → Addr} {B p o : Nat} {w w' : World} (h : SentB s B w) (hc : Chg p o w w') (hp : B ≤ p) (ho : B ≤ o) : SentB s B w' := by
  obtain ⟨W0, h1, h2, h3⟩ := h
  exact ⟨W0, h1, h2, h3.trans (hc.below (by omega) (by omega) h3.size)⟩
theorem SentB.below {s : Nat → Addr} {B B' : Nat} {w w' : World} (h : SentB s B w) (hb : Below B' w w') (hB : B ≤ B') : SentB s B w' := by
  obtain ⟨W0, h1, h2, h3⟩ := h
  exact ⟨W0, h1, h2, h3.trans (hb.mono (by omega))⟩

/-- What a method of the reader leaves. -/
def InPost (s : Nat → Addr) (w : World) (q f : Nat) (T : ByteArray) (st : St) (w' : World) : Prop := ∃ f', InAt s w' q f' T st ∧ Chg q q w w' ∧ (f' = f ∨ w.heap.size ≤ f')

theorem of_c (s : Nat → Addr) (T : ByteArray) (w : World) :
    Calls Tryd.prog 17 #[.string T] w fun e w' => e = .returned (.pointer (some ⟨w.heap.size, 0, none⟩)) ∧ InAt s w' w.heap.size w.heap.size T ⟨0, none⟩ ∧ Below w.heap.size w w' := by
  have hn := Lib.hid (InAt.new s w T)
  go_enter Tryd.func17, Tryd.ntmps17
  go_wp2_with fail
  go_ret
  exact ⟨rfl, hn.out, (Below.refl _ _).alloc (Nat.le_refl _) _⟩

theorem left_c (s : Nat → Addr) (q f : Nat) (T : ByteArray) (st : St) (w : World) (hT : T.size ≤ 9223372036854775807) (h : InAt s w q f T st) :
    Calls Tryd.prog 27 #[.pointer (some ⟨q, 0, none⟩)] w fun e w' => e = .returned (.int .i64 ((T.size : Int) - (st.i : Int))) ∧ ∃ n, w' = w.drewN n := by
  obtain ⟨ev, h1, h2, h3, h4⟩ := id h
  have c0 : w.cell? ⟨q, 0, none⟩ = some (.string T) := cell_of_heap h1 0
  have c1 : w.cell? ⟨q, 1, none⟩ = some (.int .i64 (st.i : Int)) := cell_of_heap h1 1
  have hi0 : (0 : Int) ≤ (st.i : Int) := by omega
  have hi1 : (st.i : Int) ≤ (T.size : Int) := by omega
  clear h h1 h2 h4
  go_enter Tryd.func27, Tryd.ntmps27
  go_wp2_with fail
  go_quiet (fail)
  go_wp2_with fail
  go_ret
  exact ⟨rfl, _, rfl⟩

theorem int_c (s : Nat → Addr) (q f : Nat) (T : ByteArray) (st : St) (w : World) (hs : SentB s q w) (hT : T.size ≤ 9223372036854775807) (h : InAt s w q f T st) :
    Calls Tryd.prog 19 #[.pointer (some ⟨q, 0, none⟩)] w fun e w' => e = .returned (.int .i64 ((intS T st).1.getD 0)) ∧ InPost s w q f T (intS T st).2 w' := by
  go_enter Tryd.func19, Tryd.ntmps19
  go_wp2_with fail
  refine (number_c s q f T st _ hs.sent hT h).mono ?_
  rintro e w1 ⟨rfl, g⟩
  have G := Lib.hid g; clear g
  go_wp2_with fail
  go_ret
  exact ⟨rfl, G.out⟩

def boolS (T : ByteArray) (st : St) : Bool × St :=
  match (intS T st).1 with
  | none => (false, (intS T st).2)
  | some n => if n = 0 ∨ n = 1 then (n == 1, (intS T st).2) else (false, failS T st.i (intS T st).2)
def textS (T : ByteArray) (most : Int) (st : St) : ByteArray × St :=
  match (intS T st).1 with
  | none => (⟨#[]⟩, (intS T st).2)
  | some n => if n < 0 ∨ most < n ∨ (T.size : Int) - ((intS T st).2.i : Int) < n then (⟨#[]⟩, failS T st.i (intS T st).2) else (T.extract (intS T st).2.i ((intS T st).2.i + n.toNat), ⟨(intS T st).2.i + n.toNat, (intS T st).2.bad⟩)

set_option maxHeartbeats 1600000 in
set_option maxRecDepth 100000 in
theorem bool_c (s : Nat → Addr) (q f : Nat) (T : ByteArray) (st : St) (w : World) (hs : SentB s q w) (hT : T.size ≤ 9223372036854775807) (h : InAt s w q f T st) :
    Calls Tryd.prog 25 #[.pointer (some ⟨q, 0, none⟩)] w fun e w' => e = .returned (.bool (boolS T st).1) ∧ InPost s w q f T (boolS T st).2 w' := by
  obtain ⟨ev, h1, h2, h3, h4⟩ := id h
  have c1 : w.cell? ⟨q, 1, none⟩ = some (.int .i64 (st.i : Int)) := cell_of_heap h1 1
  clear h1 h2 h4
  cases hd : (intS T st).1 with
  | none =>
    have hn := number_c s q f T st w hs.sent hT h
    rw [hd] at hn
    have HN := Lib.hid hn; clear hn
    have hB : boolS T st = (false, (intS T st).2) := by unfold boolS; rw [hd]
    have HB := Lib.hid hB; clear hB
    clear hd hs h
    go_enter Tryd.func25, Tryd.ntmps25
    go_wp2_with fail
    refine HN.out.mono ?_
    rintro e w1 ⟨rfl, g⟩
    have G := Lib.hid g; clear g
    go_wp2_with fail
    go_ret
    rw [HB.out]
    exact ⟨rfl, G.out⟩
  | some n =>
    have hn := number_c s q f T st w hs.sent hT h
    rw [hd] at hn
    have HN := Lib.hid hn; clear hn
    by_cases h01 : n = 0 ∨ n = 1
    · have hB : boolS T st = (n == 1, (intS T st).2) := by unfold boolS; rw [hd]; simp only; rw [if_pos h01]
      have HB := Lib.hid hB; clear hB
      have e0 : (n != 0) = (n == 1) := by rcases h01 with rfl | rfl <;> rfl
      have e1 : (n != 1) = !(n == 1) := by rcases h01 with rfl | rfl <;> rfl
      clear hd hs h
      rcases h01 with rfl | rfl
      all_goals
        clear e0 e1
        go_enter Tryd.func25, Tryd.ntmps25
        go_wp2_with fail
        refine HN.out.mono ?_
        rintro e w1 ⟨rfl, g⟩
        have G := Lib.hid g; clear g
        go_wp2_with fail
        go_ret
        rw [HB.out]
        exact ⟨rfl, G.out⟩
    · have hB : boolS T st = (false, failS T st.i (intS T st).2) := by unfold boolS; rw [hd]; simp only; rw [if_neg h01]
      have HB := Lib.hid hB; clear hB
      have e0 : (n != 0) = true := by rw [bne_iff_ne]; omega
      have e1 : (n != 1) = true := by rw [bne_iff_ne]; omega
      have e2 : (n == 1) = false := by rw [beq_eq_false_iff_ne]; omega
      have HS := Lib.hid hs; clear hs
      clear hd h h01
      go_enter Tryd.func25, Tryd.ntmps25
      go_wp2_with fail
      refine HN.out.mono ?_
      rintro e w1 ⟨rfl, f', g1, g2, g3⟩
      go_wp2_with fail
      refine (fail_c s q f' T _ st.i _ (HS.out.chg g2 (Nat.le_refl _) (Nat.le_refl _)).sent g1).mono ?_
      rintro e w2 ⟨rfl, f2, k1, k2, k3⟩
      have G : Hid (InPost s w q f T (failS T st.i (intS T st).2) w2) := Lib.hid ⟨f2, k1, g2.trans k2 (.inl rfl), by have := g2.size; omega⟩
      clear g1 g2 g3 k1 k2 k3
      go_wp2_with fail
      go_ret
      rw [HB.out]
      exact ⟨rfl, G.out⟩

theorem intS_le {T : ByteArray} {st : St} (h : st.i ≤ T.size) : (intS T st).2.i ≤ T.size := by
  cases hd : dec (T.data.toList.drop st.i) with
  | none => rw [intS_none hd]; exact Nat.le_refl _
  | some p =>
    obtain ⟨n, k⟩ := p
    rw [intS_some hd]
    obtain ⟨_, _, _, _, _, hk⟩ := parse_of_some hd
    simp at hk ⊢
    omega
theorem ret_s' {a b : ByteArray} (h : a = b) : Ending.returned (.string a) = .returned (.string b) := by rw [h]
theorem text_in {s : Nat → Addr} {w : World} {q f k : Nat} {T : ByteArray} {st : St} (h : InAt s w q f T st) (hik : st.i + k ≤ T.size) : InAt s (w.setCell ⟨q, 1, none⟩ (.int .i64 ((st.i : Int) + (k : Int)))) q f T ⟨st.i + k, st.bad⟩ := by
  obtain ⟨ev, h1, h2, h3, h4⟩ := h
  refine ⟨ev, three_set1 h1, ?_, hik, fun hb => by have := h4 hb; simp only at *; omega⟩
  show ErrAt s _ q f ev st.bad
  cases hb : st.bad with
  | none => rw [hb] at h2; exact h2
  | some b => rw [hb] at h2; exact ⟨h2.1, h2.2.1, (Below.heap_setCell _ _ _ _ (show f ≠ q by have := h2.2.1; omega)).trans h2.2.2⟩

theorem text_fin {s : Nat → Addr} {w W w' : World} {q f f' : Nat} {T : ByteArray} {st : St} (h : InAt s W q f' T st) (hc : Chg q q w W) (hf : f' = f ∨ w.heap.size ≤ f') (hb : Below W.heap.size W w') : InPost s w q f T st w' :=
  ⟨f', h.below hb h.lt.1 h.lt.2.2, hc.trans (Chg.of_below hb) (.inl rfl), hf⟩
theorem ext_le (T : ByteArray) (a b : Nat) (h : T.size ≤ 35184372088832) : (T.extract a b).size ≤ 281474976710656 := by simp; omega

set_option maxHeartbeats 3200000 in
set_option maxRecDepth 100000 in
theorem text_c (s : Nat → Addr) (q f : Nat) (T : ByteArray) (most : Int) (st : St) (w : World) (hs : SentB s q w) (hT : T.size ≤ 35184372088832) (h : InAt s w q f T st) :
    Calls Tryd.prog 21 #[.pointer (some ⟨q, 0, none⟩), .int .i64 most] w fun e w' => e = .returned (.string (textS T most st).1) ∧ InPost s w q f T (textS T most st).2 w' := by
  obtain ⟨ev, h1, h2, h3, h4⟩ := id h
  have c1 : w.cell? ⟨q, 1, none⟩ = some (.int .i64 (st.i : Int)) := cell_of_heap h1 1
  clear h1 h2 h4
  have hle := intS_le (T := T) h3
  have hn := number_c s q f T st w hs.sent (by omega) h
  cases hd : (intS T st).1 with
  | none =>
    rw [hd] at hn
    have HN := Lib.hid hn; clear hn
    have HB := Lib.hid (show textS T most st = (⟨#[]⟩, (intS T st).2) by unfold textS; rw [hd])
    clear hd hs h
    go_enter Tryd.func21, Tryd.ntmps21
    go_wp2_with fail
    refine HN.out.mono ?_
    rintro e w1 ⟨rfl, g⟩
    have G := Lib.hid g; clear g
    go_wp2_with fail
    go_ret
    rw [HB.out]
    exact ⟨rfl, G.out⟩
  | some n =>
    rw [hd] at hn
    have HN := Lib.hid hn; clear hn
    obtain ⟨st1, hst1⟩ : ∃ st1, (intS T st).2 = st1 := ⟨_, rfl⟩
    rw [hst1] at HN hle
    have HS := Lib.hid hs; clear hs
    by_cases hbad : n < 0 ∨ most < n ∨ (T.size : Int) - (st1.i : Int) < n
    · have HB := Lib.hid (show textS T most st = (⟨#[]⟩, failS T st.i st1) by unfold textS; rw [hd]; simp only [hst1]; rw [if_pos hbad])
      clear hd h hst1
      by_cases hneg : n < 0
      · clear hbad
        go_enter Tryd.func21, Tryd.ntmps21
        go_wp2_with fail
        refine HN.out.mono ?_
        rintro e w1 ⟨rfl, f', g1, g2, g3⟩
        go_wp2_with fail
        refine (fail_c s q f' T _ st.i _ (HS.out.chg g2 (Nat.le_refl _) (Nat.le_refl _)).sent g1).mono ?_
        rintro e w2 ⟨rfl, f2, k1, k2, k3⟩
        have G : Hid (InPost s w q f T (failS T st.i st1) w2) := Lib.hid ⟨f2, k1, g2.trans k2 (.inl rfl), by have := g2.size; omega⟩
        clear g1 g2 g3 k1 k2 k3
        go_wp2_with fail
        go_ret
        rw [HB.out]
        exact ⟨rfl, G.out⟩
      · by_cases hmost : most < n
        · clear hbad
          go_enter Tryd.func21, Tryd.ntmps21
          go_wp2_with fail
          refine HN.out.mono ?_
          rintro e w1 ⟨rfl, f', g1, g2, g3⟩
          go_wp2_with fail
          refine (fail_c s q f' T _ st.i _ (HS.out.chg g2 (Nat.le_refl _) (Nat.le_refl _)).sent g1).mono ?_
          rintro e w2 ⟨rfl, f2, k1, k2, k3⟩
          have G : Hid (InPost s w q f T (failS T st.i st1) w2) := Lib.hid ⟨f2, k1, g2.trans k2 (.inl rfl), by have := g2.size; omega⟩
          clear g1 g2 g3 k1 k2 k3
          go_wp2_with fail
          go_ret
          rw [HB.out]
          exact ⟨rfl, G.out⟩
        · have hl : (T.size : Int) - (st1.i : Int) < n := by omega
          clear hbad
          go_enter Tryd.func21, Tryd.ntmps21
          go_wp2_with fail
          refine HN.out.mono ?_
          rintro e w1 ⟨rfl, f', g1, g2, g3⟩
          go_wp2_with fail
          refine (left_c s q f' T _ _ (by omega) g1).mono ?_
          rintro e w3 ⟨rfl, nd, rfl⟩
          go_wp2_with fail
          refine (fail_c s q f' T _ st.i _ ((HS.out.chg g2 (Nat.le_refl _) (Nat.le_refl _)).chg ((Chg.refl q q _).drewN nd) (Nat.le_refl _) (Nat.le_refl _)).sent (g1.drewN nd)).mono ?_
          rintro e w2 ⟨rfl, f2, k1, k2, k3⟩
          have G : Hid (InPost s w q f T (failS T st.i st1) w2) := Lib.hid ⟨f2, k1, (g2.drewN nd).trans k2 (.inl rfl), by have h1 := g2.size; have h2 : w.heap.size ≤ (w1.drewN nd).heap.size := h1; omega⟩
          clear g1 g2 g3 k1 k2 k3
          go_wp2_with fail
          go_ret
          rw [HB.out]
          exact ⟨rfl, G.out⟩
    · obtain ⟨m, rfl⟩ : ∃ m : Nat, n = (m : Int) := ⟨n.toNat, by omega⟩
      have HB := Lib.hid (show textS T most st = (T.extract st1.i (st1.i + m), ⟨st1.i + m, st1.bad⟩) by unfold textS; rw [hd]; simp only [hst1]; rw [if_neg hbad]; rfl)
      have hm1 : ¬ (m : Int) < 0 := by omega
      have hm2 : ¬ most < (m : Int) := by omega
      have hm3 : ¬ (T.size : Int) - (st1.i : Int) < (m : Int) := by omega
      have hm4 : (st1.i : Int) + (m : Int) ≤ (T.size : Int) := by omega
      clear hd h hst1 hbad
      go_enter Tryd.func21, Tryd.ntmps21
      go_wp2_with fail
      refine HN.out.mono ?_
      rintro e w1 ⟨rfl, f', g1, g2, g3⟩
      go_wp2_with fail
      refine (left_c s q f' T _ _ (by omega) g1).mono ?_
      rintro e w3 ⟨rfl, nd, rfl⟩
      obtain ⟨ev, e1, e2, e3, e4⟩ := id g1
      have k0 : (w1.drewN nd).cell? ⟨q, 0, none⟩ = some (.string T) := cell_of_heap e1 0
      have k1 : (w1.drewN nd).cell? ⟨q, 1, none⟩ = some (.int .i64 (st1.i : Int)) := cell_of_heap e1 1
      have kf : (w1.drewN nd).frozen? ⟨q, 1, none⟩ = false := frozen_of_heap e1 1
      have hI : Hid (InAt s ((w1.drewN nd).setCell ⟨q, 1, none⟩ (.int .i64 ((st1.i : Int) + (m : Int)))) q f' T ⟨st1.i + m, st1.bad⟩) := Lib.hid (text_in (g1.drewN nd) (by omega))
      have hq := g1.lt
      have G2 := Lib.hid g2
      have e1 : (w1.drewN nd).heap[q]? = some (.cells #[.string T, .int .i64 (st1.i : Int), ev] 63 (0, 0)) := e1
      clear e2 e4 g1 g2
      have hi0 : (0 : Int) ≤ (st1.i : Int) := by omega
      have hi1 : (st1.i : Int) ≤ (st1.i : Int) + (m : Int) := by omega
      have HS2 : Hid (∀ w' : World, Below (q + 1) ((w1.drewN nd).setCell ⟨q, 1, none⟩ (.int .i64 ((st1.i : Int) + (m : Int)))) w' → (w'.cell? ⟨q, 0, none⟩ = some (.string T) ∧ w'.cell? ⟨q, 1, none⟩ = some (.int .i64 ((st1.i : Int) + (m : Int))) ∧ Below (q + 1) ((w1.drewN nd).setCell ⟨q, 1, none⟩ (.int .i64 ((st1.i : Int) + (m : Int)))) w')) := Lib.hid fun w' h =>
        ⟨(h.cell (p := ⟨q, 0, none⟩) (by simp)).trans (cell_of_heap (three_set1 (by assumption)) 0), (h.cell (p := ⟨q, 1, none⟩) (by simp)).trans (cell_of_heap (three_set1 (by assumption)) 1), h⟩
      clear e1
      go_wp2_with fail
      go_region_held3 (fun w' => w'.cell? ⟨q, 0, none⟩ = some (.string T) ∧ w'.cell? ⟨q, 1, none⟩ = some (.int .i64 ((st1.i : Int) + (m : Int))) ∧ Below (q + 1) ((w1.drewN nd).setCell ⟨q, 1, none⟩ (.int .i64 ((st1.i : Int) + (m : Int)))) w')
        (exact HS2.out _ (by (repeat' (first | (with_reducible exact Below.refl _ _) | (with_reducible refine below_drewN ?_ _) | (with_reducible refine Below.drew ?_) | (with_reducible refine Below.alloc ?_ ?_ _) | (with_reducible refine Below.setCell ?_ ?_ _) | (with_reducible refine Below.trans ?_ (Below.mono (by with_reducible assumption) ?_)) | omega | (simp only [World.size_setCell, World.size_drew, Go.Proofs.YtcahidhcnhgbeaaDoor.World.size_drewN] at *; omega) | (with_reducible refine Below.size (B := 0) ?_)))))
        (first | (go_at_call 36; (refine (clone_c _ _ (ext_le _ _ _ hT)).mono ?_); rintro e w5 ⟨rfl, hb5⟩))
      all_goals go_wp2_with fail
      all_goals go_ret
      all_goals rw [HB.out]
      all_goals refine ⟨ret_s' (congrArg (T.extract st1.i) (show ((st1.i : Int) + (m : Int)).toNat = st1.i + m by omega)), ?_⟩
      all_goals exact text_fin (W := (w1.drewN nd).setCell ⟨q, 1, none⟩ (.int .i64 ((st1.i : Int) + (m : Int)))) hI.out (show Chg q q w _ from (G2.out.drewN nd).setCell (.inl rfl) _) g3 (by (repeat' (first | (with_reducible exact Below.refl _ _) | (with_reducible refine below_drewN ?_ _) | (with_reducible refine Below.drew ?_) | (with_reducible refine Below.alloc ?_ ?_ _) | (with_reducible refine Below.setCell ?_ ?_ _) | (with_reducible refine Below.trans ?_ (Below.mono (by with_reducible assumption) ?_)) | omega | (simp only [World.size_setCell, World.size_drew, Go.Proofs.YtcahidhcnhgbeaaDoor.World.size_drewN] at *; omega) | (with_reducible refine Below.size (B := 0) ?_))))
end Go.Proofs.YtcahidhcnhgbeaaDoor
