/- The program's book of envelopes, each method as the laws ask it. Conditions: the book lies in memory as its maps have it; the sentinels lie where the program's text lays them, as long as only the book's own blocks turn. -/
import Derived.Test.YtbdnfppbiplpmaaDoorMaD
import Derived.Test.YtbdnfppbiplpmaaDoorMaC
import Derived.Test.YtbdnfppbiplpmaaDoorMaB
import Derived.Test.YtbdnfppbiplpmaaDoorKd
import Derived.Test.YtbdnfppbiplpmaaDoorMaA
import Derived.Test.YtbdnfppbiplpmaaDoorKyA
import Derived.Test.YtbdnfppbiplpmaaDoorEqV
import Derived.Deep.DeepCutAuto
import Derived.Deep.CutBlock
namespace Go.Proofs.YtbdnfppbiplpmaaDoor
open Go Go.RowKit Go.Maps Go.Sort

/-- All tasks' numbers are ints. -/
def OkG (G : AG) : Prop := ∀ x ∈ G.tasks, okT x.tk
section
variable {w : World} {P : Nat → Prop} {q : Nat} {G : AG}
theorem AlW.okG (h : AlW w P q G) : OkG G := fun x hx => by
  obtain ⟨b1, b2, T1, T2, bl, h⟩ := h
  have hl : look T2 x.tk = some ⟨x.set, x.pos, x.need⟩ := by rw [h.seats, (tk_iff h.good).2 ⟨hx, rfl⟩]; rfl
  exact h.m2.okKey hl
theorem AlW.open_c (s : Nat → Addr) (h : AlW w P q G) (hs : SentP s P w) (id N : Int) (v : V4) :
    Calls Tryd.prog 9 #[.pointer (some ⟨q, 0, none⟩), .int .i64 id, .int .i64 N, .agg #[.int .i64 v.a, .int .i64 v.b, .int .i64 v.c, .int .i64 v.d]] w fun e w' => e = .returned (errV s (openA G id N v).2) ∧ (∃ P', AlW w' P' q (openA G id N v).1 ∧ ∀ k, P' k → P k ∨ w.heap.size ≤ k) ∧ ChP P w w' := by
  obtain ⟨b1, b2, T1, T2, bl, h⟩ := h
  have no : ∀ {d : Nat}, openA G id N v = (G, d) → (Calls Tryd.prog 9 #[.pointer (some ⟨q, 0, none⟩), .int .i64 id, .int .i64 N, .agg #[.int .i64 v.a, .int .i64 v.b, .int .i64 v.c, .int .i64 v.d]] w fun e w' => e = .returned (errV s d) ∧ Below w.heap.size w w') → (Calls Tryd.prog 9 #[.pointer (some ⟨q, 0, none⟩), .int .i64 id, .int .i64 N, .agg #[.int .i64 v.a, .int .i64 v.b, .int .i64 v.c, .int .i64 v.d]] w fun e w' => e = .returned (errV s (openA G id N v).2) ∧ (∃ P', AlW w' P' q (openA G id N v).1 ∧ ∀ k, P' k → P k ∨ w.heap.size ≤ k) ∧ ChP P w w') := fun he hc => by
    rw [he]
    exact hc.mono fun e w' ⟨k1, k2⟩ => ⟨k1, ⟨P, (h.on k2).any, fun _ h => .inl h⟩, ChP.of_below k2⟩
  by_cases r : id < 1 ∨ 999 < id ∨ N < 1 ∨ 8 < N
  · refine no ?_ (aopen_arg s h hs v r)
    unfold openA
    rw [if_pos (by omega)]
  · have hr : 1 ≤ id ∧ id ≤ 999 ∧ 1 ≤ N ∧ N ≤ 8 := by omega
    cases hg : goodV v with
    | false =>
      refine no ?_ (aopen_bad s h hs v hr hg)
      unfold openA
      rw [if_pos (.inr (.inr (.inr (.inr hg))))]
    | true =>
      have n1 : ¬ (id < 1 ∨ 999 < id ∨ N < 1 ∨ 8 < N ∨ goodV v = false) := by rw [hg]; simp; omega
      cases e : setA G id with
      | some sA =>
        refine no ?_ (aopen_dup s h hs v hr hg e)
        unfold openA
        rw [if_neg n1, if_pos (by rw [e]; rfl)]
      | none =>
        by_cases hf : 8 ≤ G.sets.length
        · refine no ?_ (aopen_full s h hs v hr hg e hf)
          unfold openA
          rw [if_neg n1, if_neg (by rw [e]; simp), if_pos hf]
        · have he : openA G id N v = (openG G id N.toNat v, 0) := by
            unfold openA
            rw [if_neg n1, if_neg (by rw [e]; simp), if_neg hf]
            rfl
          rw [he, errA0]
          have := aopen_ok h v (n := N.toNat) (by omega) hg e (by omega)
          rw [show ((N.toNat : Nat) : Int) = N by omega] at this
          exact this
theorem AlW.close_c (s : Nat → Addr) (h : AlW w P q G) (hs : SentP s P w) {id : Int} (hid : i64 id) :
    Calls Tryd.prog 11 #[.pointer (some ⟨q, 0, none⟩), .int .i64 id] w fun e w' => e = .returned (errV s (closeA G id).2) ∧ AlW w' P q (closeA G id).1 ∧ ChP P w w' := by
  obtain ⟨b1, b2, T1, T2, bl, h⟩ := h
  exact (aclose_c s h hs hid).mono fun e w' ⟨k1, ⟨_, k2⟩, k3⟩ => ⟨k1, k2.any, k3⟩
theorem AlW.raise_c (s : Nat → Addr) (h : AlW w P q G) (hs : SentP s P w) {id : Int} (hid : i64 id) (pos : Int) :
    Calls Tryd.prog 13 #[.pointer (some ⟨q, 0, none⟩), .int .i64 id, .int .i64 pos] w fun e w' => e = .returned (errV s (turnA G id pos true).2) ∧ AlW w' P q (turnA G id pos true).1 ∧ ChP P w w' := by
  obtain ⟨b1, b2, T1, T2, bl, h⟩ := h
  exact (araise_c s h hs hid).mono fun e w' ⟨k1, k2, k3⟩ => ⟨k1, k2.any, k3⟩
theorem turnA_cases {G : AG} (id pos : Int) (b : Bool) : (0 < (turnA G id pos b).2 ∧ (turnA G id pos b).1 = G) ∨ ((turnA G id pos b).2 = 0 ∧ (turnA G id pos b).1 = turnG G id pos b ∧ ∃ (s : SetA) (k : Nat), setA G id = some s ∧ pos = (k : Int) ∧ k < s.n ∧ s.up pos = !b) := by
  unfold turnA
  cases e : setA G id with
  | none => exact .inl ⟨by simp, rfl⟩
  | some s =>
    simp only
    split
    · exact .inl ⟨by simp, rfl⟩
    · split
      · exact .inl ⟨by simp, rfl⟩
      · rename_i h1 h2
        exact .inr ⟨rfl, rfl, s, pos.toNat, rfl, by omega, by omega, by cases b <;> simpa using h2⟩
/-- Book.Fall: what is told, and the tasks that were inside. -/
theorem AlW.fall_c (s : Nat → Addr) (h : AlW w P q G) (hs : SentP s P w) {id : Int} (hid : i64 id) (pos : Int) (hlen : G.tasks.length ≤ 100000) :
    Calls Tryd.prog 16 #[.pointer (some ⟨q, 0, none⟩), .int .i64 id, .int .i64 pos] w fun e w' => ∃ v, e = .returned (.tuple #[v, errV s (turnA G id pos false).2]) ∧ AlW w' P q (turnA G id pos false).1 ∧ ChP P w w' ∧ OwnE encTk 32 w' w.heap.size v (if (turnA G id pos false).2 = 0 then insideA G id pos else []) := by
  have hok := h.okG
  obtain ⟨b1, b2, T1, T2, bl, h⟩ := h
  rcases turnA_cases (G := G) id pos false with ⟨h1, h2⟩ | ⟨h1, h2, sA, k, h3, rfl, h4, h5⟩
  · refine (afall_no s h hs hid h1).mono fun e w' ⟨k1, k2⟩ => ⟨_, k1, ?_, ChP.of_below k2, ?_⟩
    · rw [h2]; exact (h.on k2).any
    · rw [if_neg (by omega)]; exact OwnE.nil _ _ _
  · refine (afall_ok s h hs hid h3 h4 h5 hlen hok).mono fun e w' ⟨v, k1, k2, k3, k4⟩ => ⟨v, ?_, ?_, k3, ?_⟩
    · rw [h1, errA0]; exact k1
    · rw [h2]; exact k2
    · rw [if_pos h1]; exact k4
theorem AlW.put_c (s : Nat → Addr) (h : AlW w P q G) (hs : SentP s P w) {t : Tk} (ht : okT t) {id : Int} (hid : i64 id) (pos : Int) (v : V4) (hlen : G.tasks.length ≤ 100000) :
    Calls Tryd.prog 20 #[.pointer (some ⟨q, 0, none⟩), .agg #[.int .i64 t.job, .int .i64 t.ix], .int .i64 id, .int .i64 pos, .agg #[.int .i64 v.a, .int .i64 v.b, .int .i64 v.c, .int .i64 v.d]] w fun e w' => e = .returned (errV s (putA G t id pos v).2) ∧ AlW w' P q (putA G t id pos v).1 ∧ ChP P w w' := by
  obtain ⟨b1, b2, T1, T2, bl, h⟩ := h
  have no : ∀ {d : Nat}, putA G t id pos v = (G, d) → (Calls Tryd.prog 20 #[.pointer (some ⟨q, 0, none⟩), .agg #[.int .i64 t.job, .int .i64 t.ix], .int .i64 id, .int .i64 pos, .agg #[.int .i64 v.a, .int .i64 v.b, .int .i64 v.c, .int .i64 v.d]] w fun e w' => e = .returned (errV s d) ∧ Below w.heap.size w w') →
      (Calls Tryd.prog 20 #[.pointer (some ⟨q, 0, none⟩), .agg #[.int .i64 t.job, .int .i64 t.ix], .int .i64 id, .int .i64 pos, .agg #[.int .i64 v.a, .int .i64 v.b, .int .i64 v.c, .int .i64 v.d]] w fun e w' => e = .returned (errV s (putA G t id pos v).2) ∧ AlW w' P q (putA G t id pos v).1 ∧ ChP P w w') := fun he hc => by
    rw [he]
    exact hc.mono fun e w' ⟨k1, k2⟩ => ⟨k1, (h.on k2).any, ChP.of_below k2⟩
  rcases Nat.eq_zero_or_pos (findE G id pos) with h0 | h0
  · obtain ⟨sA, k, e, rfl, hk⟩ := findE_some h0
    have n1 : ¬ ((k : Int) < 0 ∨ (sA.n : Int) ≤ (k : Int)) := by omega
    cases hg : goodV v with
    | false =>
      refine no ?_ (aput_arg s h hs ht v hid e hk hg)
      unfold putA; rw [e]; simp only
      rw [if_pos (.inr hg)]
    | true =>
      have n2 : ¬ (((k : Int) < 0 ∨ (sA.n : Int) ≤ (k : Int)) ∨ goodV v = false) := by rw [hg]; simp; omega
      cases hu : sA.up (k : Int) with
      | false =>
        refine no ?_ (aput_down s h hs ht v hid e hk hg hu)
        unfold putA; rw [e]; simp only
        rw [if_neg n2, if_pos hu]
      | true =>
        cases hb : (tkA G t).isSome with
        | true =>
          refine no ?_ (aput_dup s h hs ht v hid e hk hg hu hb)
          unfold putA; rw [e]; simp only
          rw [if_neg n2, if_neg (by rw [hu]; simp), if_pos hb]
        | false =>
          cases hf : fitsV v (leftA G sA (k : Int)) with
          | false =>
            refine no ?_ (aput_room s h hs ht v hid e hk hg hu hb hf)
            unfold putA; rw [e]; simp only
            rw [if_neg n2, if_neg (by rw [hu]; simp), if_neg (by rw [hb]; simp), if_pos hf]
          | true =>
            have he : putA G t id (k : Int) v = (putG G t id k v, 0) := by
              unfold putA; rw [e]; simp only
              rw [if_neg n2, if_neg (by rw [hu]; simp), if_neg (by rw [hb]; simp), if_neg (by rw [hf]; simp)]
              rfl
            rw [he]
            exact (aput_ok s h hs ht v hid e hk hg hu hb hf hlen).mono fun e w' ⟨k1, k2, k3⟩ => ⟨k1, k2.any, k3⟩
  · refine no ?_ (aput_find s h hs t v hid h0)
    unfold putA; unfold findE at h0 ⊢
    cases e : setA G id with
    | none => rfl
    | some s' =>
      rw [e] at h0
      simp only at h0 ⊢
      split at h0
      · rename_i k; rw [if_pos (.inl k), if_pos k]
      · omega
theorem AlW.take_c (s : Nat → Addr) (h : AlW w P q G) (hs : SentP s P w) {t : Tk} (ht : okT t) :
    Calls Tryd.prog 18 #[.pointer (some ⟨q, 0, none⟩), .agg #[.int .i64 t.job, .int .i64 t.ix]] w fun e w' => e = .returned (errV s (takeA G t).2) ∧ AlW w' P q (takeA G t).1 ∧ ChP P w w' := by
  obtain ⟨b1, b2, T1, T2, bl, h⟩ := h
  unfold takeA
  cases e : tkA G t with
  | none => exact (atake_no s h hs ht e).mono fun e w' ⟨k1, k2⟩ => ⟨k1, (h.on k2).any, ChP.of_below k2⟩
  | some x => exact (atake_ok s h hs ht e).mono fun e w' ⟨k1, k2, k3⟩ => ⟨k1, k2.any, k3⟩
theorem AlW.where_c (h : AlW w P q G) {t : Tk} (ht : okT t) :
    Calls Tryd.prog 22 #[.pointer (some ⟨q, 0, none⟩), .agg #[.int .i64 t.job, .int .i64 t.ix]] w fun e w' => e = .returned (.tuple #[.int .i64 (seatA G t).set, .int .i64 (seatA G t).pos, .bool (tkA G t).isSome]) ∧ Below w.heap.size w w' := by
  obtain ⟨b1, b2, T1, T2, bl, h⟩ := h
  exact awhere_c h ht
theorem AlW.spots_c (h : AlW w P q G) {id : Int} (hid : i64 id) :
    Calls Tryd.prog 24 #[.pointer (some ⟨q, 0, none⟩), .int .i64 id] w fun e w' => ∃ v, e = .returned v ∧ OwnE encSpt 65 w' w.heap.size v (spotsOf G id) ∧ Below w.heap.size w w' := by
  obtain ⟨b1, b2, T1, T2, bl, h⟩ := h
  exact aspots_c h hid
theorem AlW.inside_c (h : AlW w P q G) (id pos : Int) (hlen : G.tasks.length ≤ 100000) :
    Calls Tryd.prog 26 #[.pointer (some ⟨q, 0, none⟩), .int .i64 id, .int .i64 pos] w fun e w' => ∃ v, e = .returned v ∧ OwnE encTk 32 w' w.heap.size v (insideA G id pos) ∧ Below w.heap.size w w' := by
  obtain ⟨b1, b2, T1, T2, bl, h⟩ := h
  exact ainside_c h id pos hlen
end
/-- The law's own book: its blocks are younger than the law. -/
structure AlL (w0 w : World) (P : Nat → Prop) (q : Nat) (G : AG) : Prop where
  book : AlW w P q G
  below : Below w0.heap.size w0 w
  low : ∀ k, P k → w0.heap.size ≤ k
section
variable {w0 w w' : World} {P : Nat → Prop} {q : Nat} {G : AG}
theorem AlL.sent {s : Nat → Addr} (h : AlL w0 w P q G) (hs : Sent s w0) : SentP s P w := SentP.of hs h.below h.low
theorem AlL.on (h : AlL w0 w P q G) (hb : Below w.heap.size w w') : AlL w0 w' P q G := ⟨h.book.on hb, h.below.trans (hb.mono h.below.size), h.low⟩
theorem AlL.step {G' : AG} (h : AlL w0 w P q G) (k : AlW w' P q G') (hc : ChP P w w') : AlL w0 w' P q G' := ⟨k, h.below.trans (hc.below h.low h.below.size), h.low⟩
theorem AlL.step' {G' : AG} {P' : Nat → Prop} (h : AlL w0 w P q G) (k : AlW w' P' q G') (hP : ∀ k, P' k → P k ∨ w.heap.size ≤ k) (hc : ChP P w w') : AlL w0 w' P' q G' :=
  ⟨k, h.below.trans (hc.below h.low h.below.size), fun i hi => by rcases hP i hi with h1 | h1; exact h.low i h1; exact Nat.le_trans h.below.size h1⟩
end
end Go.Proofs.YtbdnfppbiplpmaaDoor

/- The program's book of envelopes that is nil: Put and Take. Condition: the sentinels lie where the program's text lays them. -/
namespace Go.Proofs.YtbdnfppbiplpmaaDoor
open Go Go.RowKit Go.Maps

set_option maxRecDepth 100000 in
set_option maxHeartbeats 1600000 in
theorem atake_nil (s : Nat → Addr) (w : World) (hs : Sent s w) (t : Tk) :
    Calls Tryd.prog 18 #[.pointer none, .agg #[.int .i64 t.job, .int .i64 t.ix]] w fun e w' => e = .returned (errV s 2) ∧ Below w.heap.size w w' := by
  have hb1 : Below w.heap.size w (w.alloc (.cells #[.int .i64 t.job, .int .i64 t.ix] 32)) := (Below.refl _ _).alloc (Nat.le_refl _) _
  have HB1 := Lib.hid hb1
  have e1 := (hs.below hb1 (Nat.le_refl _)).cell 1 (by omega)
  simp only [gnum, List.getD_cons_zero, List.getD_cons_succ] at e1
  rw [errA s 2 (by omega)]
  clear hs hb1
  go_enter Tryd.func18, Tryd.ntmps18
  go_wp2_with fail
  go_ret
  exact ⟨rfl, HB1.out⟩
set_option maxRecDepth 100000 in
set_option maxHeartbeats 1600000 in
theorem aput_nil (s : Nat → Addr) (w : World) (hs : Sent s w) (t : Tk) (id pos : Int) (v : V4) :
    Calls Tryd.prog 20 #[.pointer none, .agg #[.int .i64 t.job, .int .i64 t.ix], .int .i64 id, .int .i64 pos, .agg #[.int .i64 v.a, .int .i64 v.b, .int .i64 v.c, .int .i64 v.d]] w fun e w' => e = .returned (errV s 2) ∧ Below w.heap.size w w' := by
  obtain ⟨W1, hW1⟩ : ∃ W1, (w.alloc (.cells #[.int .i64 t.job, .int .i64 t.ix] 32)).alloc (.cells #[.int .i64 v.a, .int .i64 v.b, .int .i64 v.c, .int .i64 v.d] 34) = W1 := ⟨_, rfl⟩
  have hb1 : Below w.heap.size w W1 := by rw [← hW1]; exact ((Below.refl _ _).alloc (Nat.le_refl _) _).alloc (by simp) _
  have HB1 := Lib.hid hb1
  have HF := Lib.hid (afind_nil s W1 (hs.below hb1 (Nat.le_refl _)) id pos)
  have HW1 := Lib.hid hW1
  rw [errA s 2 (by omega)] at HF ⊢
  clear hs hb1 hW1
  go_enter Tryd.func20, Tryd.ntmps20
  go_upto_region 1 with fail
  rw [HW1.out]
  go_wp2_with fail
  refine HF.out.mono ?_
  rintro e w2 ⟨rfl, b2⟩
  have HB2 := Lib.hid (HB1.out.trans (b2.mono HB1.out.size))
  clear b2
  go_wp2_with fail
  go_ret
  exact ⟨rfl, HB2.out⟩
theorem look2_nil (w : World) {t : Tk} (ht : okT t) :
    (Instr.lookup 105 (.map none) (.agg #[.int .i64 t.job, .int .i64 t.ix]) true).run Tryd.prog w = .ok (.tuple #[.agg #[.int .i64 0, .int .i64 0, .int .i64 0, .int .i64 0, .int .i64 0, .int .i64 0], .bool false]) w :=
  Maps.look_nil true kitT.keyed Tryd.underlying105 (Tryd.zeroSeat w) (kitT.of ht)
set_option maxRecDepth 100000 in
set_option maxHeartbeats 1600000 in
/-- Book.Where. -/
theorem awhere_nil (w : World) {t : Tk} (ht : okT t) :
    Calls Tryd.prog 22 #[.pointer none, .agg #[.int .i64 t.job, .int .i64 t.ix]] w fun e w' => e = .returned (.tuple #[.int .i64 0, .int .i64 0, .bool false]) ∧ Below w.heap.size w w' := by
  obtain ⟨X, hX⟩ : ∃ X, w.heap.size = X := ⟨_, rfl⟩
  have HS : Hid (∀ W, Below w.heap.size w W → W.heap[X]? = some (.cells #[.int .i64 t.job, .int .i64 t.ix] 32 (0, 0)) → (W.cell? ⟨X, 0, none⟩ = some (.int .i64 t.job) ∧ W.cell? ⟨X, 1, none⟩ = some (.int .i64 t.ix) ∧
      (Instr.lookup 105 (.map none) (.agg #[.int .i64 t.job, .int .i64 t.ix]) true).run Tryd.prog W = .ok (.tuple #[.agg #[.int .i64 0, .int .i64 0, .int .i64 0, .int .i64 0, .int .i64 0, .int .i64 0], .bool false]) W)) := Lib.hid fun W hb' hc =>
    ⟨cell_of_heap hc 0, cell_of_heap hc 1, look2_nil W ht⟩
  have HKN : Hid (∀ W, Below w.heap.size w W → Calls Tryd.prog 62 #[.pointer none] W fun e w' => e = .returned (.agg #[.map none, .map none]) ∧ Below W.heap.size W w') := Lib.hid fun W hW => aknown_nil W
  have HX := Lib.hid hX
  have hf0 := fieldB0
  have hf1 := fieldB1
  clear ht hX
  go_enter Tryd.func22, Tryd.ntmps22
  go_wp2_with fail
  obtain ⟨W1, hW1⟩ : ∃ W1, w.alloc (.cells #[.int .i64 t.job, .int .i64 t.ix] 32) = W1 := ⟨_, rfl⟩
  have k1 : W1.heap[X]? = some (.cells #[.int .i64 t.job, .int .i64 t.ix] 32 (0, 0)) := by rw [← hW1, ← HX.out]; exact heap_alloc_new _ _
  have b1' : Below w.heap.size w W1 := by rw [← hW1]; exact (Below.refl _ _).alloc (Nat.le_refl _) _
  have hXW : X < W1.heap.size := lt_of_row k1
  have HC : Hid (∀ W, Below W1.heap.size W1 W → (W.cell? ⟨X, 0, none⟩ = some (.int .i64 t.job) ∧ W.cell? ⟨X, 1, none⟩ = some (.int .i64 t.ix) ∧ (Instr.lookup 105 (.map none) (.agg #[.int .i64 t.job, .int .i64 t.ix]) true).run Tryd.prog W = .ok (.tuple #[.agg #[.int .i64 0, .int .i64 0, .int .i64 0, .int .i64 0, .int .i64 0, .int .i64 0], .bool false]) W)) := Lib.hid fun W hb' => HS.out W (b1'.trans (hb'.mono b1'.size)) ((hb'.block X hXW).trans k1)
  have HK1 : Hid (∀ W, Below W1.heap.size W1 W → Calls Tryd.prog 62 #[.pointer none] W fun e w' => e = .returned (.agg #[.map none, .map none]) ∧ Below W.heap.size W w') := Lib.hid fun W hW => HKN.out W (b1'.trans (hW.mono b1'.size))
  have HB1 := Lib.hid b1'
  have HXL := Lib.hid hXW
  rw [hW1, HX.out]
  clear hW1 k1 b1' hXW HS HKN
  go_region_held3 (fun W => W.cell? ⟨X, 0, none⟩ = some (.int .i64 t.job) ∧ W.cell? ⟨X, 1, none⟩ = some (.int .i64 t.ix) ∧ (Instr.lookup 105 (.map none) (.agg #[.int .i64 t.job, .int .i64 t.ix]) true).run Tryd.prog W = .ok (.tuple #[.agg #[.int .i64 0, .int .i64 0, .int .i64 0, .int .i64 0, .int .i64 0, .int .i64 0], .bool false]) W)
    (first | exact HC.out _ (by (repeat' (first | (with_reducible exact Below.refl _ _) | (with_reducible refine below_drewN ?_ _) | (with_reducible refine Below.drew ?_) | (with_reducible refine Below.alloc ?_ ?_ _) | (with_reducible refine Below.setCell ?_ ?_ _) | (with_reducible refine Below.trans ?_ (Below.mono (by with_reducible assumption) ?_)) | omega | (simp only [World.size_alloc, World.size_setCell, World.size_drew, Go.Proofs.YtbdnfppbiplpmaaDoor.World.size_drewN] at *; omega) | (with_reducible refine Below.size (B := 0) ?_)))))
    (first
      | (go_at_call 62; (with_reducible refine (HK1.out _ (by (repeat' (first | (with_reducible exact Below.refl _ _) | (with_reducible refine below_drewN ?_ _) | (with_reducible refine Below.drew ?_) | (with_reducible refine Below.alloc ?_ ?_ _) | (with_reducible refine Below.setCell ?_ ?_ _) | (with_reducible refine Below.trans ?_ (Below.mono (by with_reducible assumption) ?_)) | omega | (simp only [World.size_alloc, World.size_setCell, World.size_drew, Go.Proofs.YtbdnfppbiplpmaaDoor.World.size_drewN] at *; omega) | (with_reducible refine Below.size (B := 0) ?_))))).mono ?_); rintro e w5 ⟨rfl, b5⟩; (first | (have z5 : w5.heap[W1.heap.size]? = some seatO := seat_new (W := W1.drew) b5; obtain ⟨d0, d1, d2, d3, d4, d5, df⟩ := seat_cells z5; clear z5) | skip)))
  all_goals have hb1 := HB1.out
  all_goals go_wp2_with fail
  all_goals go_quiet (fail)
  all_goals go_wp2_with fail
  all_goals refine bodyPost_ret (v := .tuple #[.int .i64 0, .int .i64 0, .bool false]) (by simp [results, Tryd.results22, go_sem]) rfl ?_
  all_goals exact ⟨rfl, by rw [← HX.out] at *; (repeat' (first | (with_reducible exact Below.refl _ _) | (with_reducible refine below_drewN ?_ _) | (with_reducible refine Below.drew ?_) | (with_reducible refine Below.alloc ?_ ?_ _) | (with_reducible refine Below.setCell ?_ ?_ _) | (with_reducible refine Below.trans ?_ (Below.mono (by with_reducible assumption) ?_)) | omega | (simp only [World.size_alloc, World.size_setCell, World.size_drew, Go.Proofs.YtbdnfppbiplpmaaDoor.World.size_drewN] at *; omega) | (with_reducible refine Below.size (B := 0) ?_)))⟩
theorem look1_nil (w : World) {id : Int} (hid : i64 id) : (Instr.lookup 104 (.map none) (.int .i64 id) false).run Tryd.prog w = .ok (.slice none 0 0) w :=
  Maps.look_nil false kitI.keyed Tryd.underlying104 (Tryd.zeroSl w) (kitI.of hid)
set_option maxRecDepth 100000 in
set_option maxHeartbeats 1600000 in
theorem aspots_nil (w : World) {id : Int} (hid : i64 id) :
    Calls Tryd.prog 24 #[.pointer none, .int .i64 id] w fun e w' => e = .returned (.slice none 0 0) ∧ Below w.heap.size w w' := by
  have HK := Lib.hid (aknown_nil w)
  have hf0 := fieldB0
  have hl := fun W => look1_nil W hid
  go_enter Tryd.func24, Tryd.ntmps24
  go_wp2_with fail
  refine HK.out.mono ?_
  rintro e w2 ⟨rfl, b2⟩
  have HB := Lib.hid b2
  clear b2
  go_wp2_with fail
  go_loopw [5, 14] (fun V I wr => V = .slice none 0 0 ∧ I = .int .i64 0 ∧ wr = w2) (fun _ _ _ => 0)
  case atStart => exact ⟨rfl, rfl, rfl⟩
  case round =>
    obtain ⟨rfl, rfl, rfl⟩ := hrel
    go_wp2_with fail
    go_ret
    exact ⟨rfl, HB.out⟩
set_option maxRecDepth 100000 in
set_option maxHeartbeats 1600000 in
theorem ainside_nil (w : World) (id pos : Int) :
    Calls Tryd.prog 26 #[.pointer none, .int .i64 id, .int .i64 pos] w fun e w' => e = .returned (.slice none 0 0) ∧ Below w.heap.size w w' := by
  have HK := Lib.hid (aknown_nil w)
  have hf1 := fieldB1
  have hr := fun W => run_range_nilMap (P := Tryd.prog) W 105 32 116 Tryd.underlying105
  have hnx := fun W ty a b s => run_next_nilMap (P := Tryd.prog) W ty a b s
  go_enter Tryd.func26, Tryd.ntmps26
  go_wp2_with fail
  refine HK.out.mono ?_
  rintro e w2 ⟨rfl, b2⟩
  have HB := Lib.hid b2
  clear b2 HK
  go_wp2_with fail
  obtain ⟨W3, hW3⟩ : ∃ W3, w2.alloc (.mapIter none 0 #[] 0) = W3 := ⟨_, rfl⟩
  have hn3 := fun ty => hnx w2 ty 0 0 #[]
  have HB3 : Hid (Below w.heap.size w W3) := Lib.hid (by rw [← hW3]; exact HB.out.alloc HB.out.size _)
  have HSO := Lib.hid (sortK_own w.heap.size (.slice none 0 0) [] W3 (OwnE.nil _ _ _) (by simp))
  have HW3 := Lib.hid hW3
  clear hr hnx hW3
  go_loopw [7] (fun V wr => V = .slice none 0 0 ∧ wr = w2.alloc (.mapIter none 0 #[] 0)) (fun _ _ => 0)
  case atStart => exact ⟨rfl, rfl⟩
  case round =>
    obtain ⟨rfl, rfl⟩ := hrel
    go_wp2_with fail
    rw [HW3.out]
    refine HSO.out.mono ?_
    rintro e w5 ⟨rfl, hr5, hg5⟩
    have HB5 : Hid (Below w.heap.size w w5) := Lib.hid (HB3.out.grown hg5 HB3.out.size (fun k hk => by cases hk))
    clear hr5 hg5
    go_wp2_with fail
    go_ret
    exact ⟨rfl, HB5.out⟩
end Go.Proofs.YtbdnfppbiplpmaaDoor

/- The law's book of envelopes beside what the law keeps: blocks and rows that no call of the book turns. Conditions: the sentinels lie as the program's text lays them. -/
namespace Go.Proofs.YtbdnfppbiplpmaaDoor
open Go Go.RowKit Go.Maps Go.Sort

/-- K holds as long as only blocks of P turn. -/
def Keeps (P : Nat → Prop) (K : World → Prop) (w : World) : Prop := ∀ W, ChP P w W → K W
theorem Keeps.here {P : Nat → Prop} {K : World → Prop} {w : World} (h : Keeps P K w) : K w := h w (ChP.refl _ _)
theorem Keeps.chp {P Q : Nat → Prop} {K : World → Prop} {w w' : World} (h : Keeps P K w) (hc : ChP P w w') (hQ : ∀ i, Q i → P i ∨ w.heap.size ≤ i) : Keeps Q K w' := fun W hW => h W (hc.trans hW hQ)
theorem keep_block {P : Nat → Prop} {w : World} {g : Nat} {o : Obj} (h : w.heap[g]? = some o) (hp : ¬ P g) : Keeps P (fun W => W.heap[g]? = some o) w := fun _ hW => hW.row h hp
theorem keep_row {α : Type} {n : Nat} {E : EncK α n} {P : Nat → Prop} {e : TypeId} {w : World} {base : Nat} {v : Value} {L : List α} (h : OwnE E e w base v L) (hp : ∀ i, v.ownBlock = some i → ¬ P i) : Keeps P (fun W => OwnE E e W base v L) w :=
  fun _ hW => h.same fun i hi => hW.block i (h.lt i hi).2 (hp i hi)
/-- The law's book, and what is kept. -/
structure AlB (w0 w : World) (P : Nat → Prop) (q : Nat) (G : AG) (K : World → Prop) : Prop where
  l : AlL w0 w P q G
  k : Keeps P K w
section
variable {s : Nat → Addr} {w0 w w' : World} {P : Nat → Prop} {q : Nat} {G : AG} {K : World → Prop}
theorem AlB.on (h : AlB w0 w P q G K) (hb : Below w.heap.size w w') : AlB w0 w' P q G K := ⟨h.l.on hb, h.k.chp (ChP.of_below hb) fun _ h => .inl h⟩
theorem AlB.drew (h : AlB w0 w P q G K) : AlB w0 w.drew P q G K := h.on (Below.refl _ _).drew
theorem AlB.alloc (h : AlB w0 w P q G K) (o : Obj) : AlB w0 (w.alloc o) P q G K := h.on ((Below.refl _ _).alloc (Nat.le_refl _) _)
theorem AlB.step {G' : AG} (h : AlB w0 w P q G K) (k : AlW w' P q G') (hc : ChP P w w') : AlB w0 w' P q G' K := ⟨h.l.step k hc, h.k.chp hc fun _ h => .inl h⟩
theorem AlB.fresh (h : AlB w0 w P q G K) {g : Nat} (hg : w.heap.size ≤ g) : ¬ P g := fun hp => by have := h.l.book.old g hp; omega
theorem AlB.new (h : AlB w0 w P q G K) (o : Obj) : AlB w0 (w.alloc o) P q G (fun W => K W ∧ W.heap[w.heap.size]? = some o) :=
  ⟨(h.alloc o).l, fun W hW => ⟨(h.alloc o).k W hW, keep_block (heap_alloc_new w o) (h.fresh (Nat.le_refl _)) W hW⟩⟩
theorem AlB.row {α : Type} {n : Nat} {E : EncK α n} {e : TypeId} {v : Value} {L : List α} (h : AlB w0 w P q G K) (hb : Below w.heap.size w w') (ho : OwnE E e w' w.heap.size v L) : AlB w0 w' P q G (fun W => K W ∧ OwnE E e W w.heap.size v L) :=
  ⟨(h.on hb).l, fun W hW => ⟨(h.on hb).k W hW, keep_row ho (fun i hi => h.fresh (ho.lt i hi).1) W hW⟩⟩
theorem AlB.drop {K' : World → Prop} (h : AlB w0 w P q G K) (hk : ∀ W, K W → K' W) : AlB w0 w P q G K' := ⟨h.l, fun W hW => hk W (h.k W hW)⟩
theorem AlB.below (h : AlB w0 w P q G K) : Below w0.heap.size w0 w := h.l.below
theorem AlB.has (h : AlB w0 w P q G K) : K w := h.k.here
theorem AlB.sentw (h : AlB w0 w P q G K) (hs : Sent s w0) : Sent s w := hs.below h.below (Nat.le_refl _)
theorem AlB.put_c (h : AlB w0 w P q G K) (hs : Sent s w0) {t : Tk} (ht : okT t) {id : Int} (hid : i64 id) (pos : Int) (v : V4) (hlen : G.tasks.length ≤ 100000) :
    Calls Tryd.prog 20 #[.pointer (some ⟨q, 0, none⟩), .agg #[.int .i64 t.job, .int .i64 t.ix], .int .i64 id, .int .i64 pos, .agg #[.int .i64 v.a, .int .i64 v.b, .int .i64 v.c, .int .i64 v.d]] w fun e w' => e = .returned (errV s (putA G t id pos v).2) ∧ AlB w0 w' P q (putA G t id pos v).1 K :=
  (h.l.book.put_c s (h.l.sent hs) ht hid pos v hlen).mono fun _ _ ⟨k1, k2, k3⟩ => ⟨k1, h.step k2 k3⟩
theorem AlB.take_c (h : AlB w0 w P q G K) (hs : Sent s w0) {t : Tk} (ht : okT t) :
    Calls Tryd.prog 18 #[.pointer (some ⟨q, 0, none⟩), .agg #[.int .i64 t.job, .int .i64 t.ix]] w fun e w' => e = .returned (errV s (takeA G t).2) ∧ AlB w0 w' P q (takeA G t).1 K :=
  (h.l.book.take_c s (h.l.sent hs) ht).mono fun _ _ ⟨k1, k2, k3⟩ => ⟨k1, h.step k2 k3⟩
theorem AlB.raise_c (h : AlB w0 w P q G K) (hs : Sent s w0) {id : Int} (hid : i64 id) (pos : Int) :
    Calls Tryd.prog 13 #[.pointer (some ⟨q, 0, none⟩), .int .i64 id, .int .i64 pos] w fun e w' => e = .returned (errV s (turnA G id pos true).2) ∧ AlB w0 w' P q (turnA G id pos true).1 K :=
  (h.l.book.raise_c s (h.l.sent hs) hid pos).mono fun _ _ ⟨k1, k2, k3⟩ => ⟨k1, h.step k2 k3⟩
theorem AlB.close_c (h : AlB w0 w P q G K) (hs : Sent s w0) {id : Int} (hid : i64 id) :
    Calls Tryd.prog 11 #[.pointer (some ⟨q, 0, none⟩), .int .i64 id] w fun e w' => e = .returned (errV s (closeA G id).2) ∧ AlB w0 w' P q (closeA G id).1 K :=
  (h.l.book.close_c s (h.l.sent hs) hid).mono fun _ _ ⟨k1, k2, k3⟩ => ⟨k1, h.step k2 k3⟩
theorem AlB.open_c (h : AlB w0 w P q G K) (hs : Sent s w0) (id N : Int) (v : V4) :
    Calls Tryd.prog 9 #[.pointer (some ⟨q, 0, none⟩), .int .i64 id, .int .i64 N, .agg #[.int .i64 v.a, .int .i64 v.b, .int .i64 v.c, .int .i64 v.d]] w fun e w' => e = .returned (errV s (openA G id N v).2) ∧ ∃ P', AlB w0 w' P' q (openA G id N v).1 K :=
  (h.l.book.open_c s (h.l.sent hs) id N v).mono fun _ _ ⟨k1, ⟨P', k2, k4⟩, k3⟩ => ⟨k1, P', h.l.step' k2 k4 k3, h.k.chp k3 k4⟩
theorem AlB.fall_c (h : AlB w0 w P q G K) (hs : Sent s w0) {id : Int} (hid : i64 id) (pos : Int) (hlen : G.tasks.length ≤ 100000) :
    Calls Tryd.prog 16 #[.pointer (some ⟨q, 0, none⟩), .int .i64 id, .int .i64 pos] w fun e w' => ∃ v, e = .returned (.tuple #[v, errV s (turnA G id pos false).2]) ∧ AlB w0 w' P q (turnA G id pos false).1 (fun W => K W ∧ OwnE encTk 32 W w.heap.size v (if (turnA G id pos false).2 = 0 then insideA G id pos else [])) :=
  (h.l.book.fall_c s (h.l.sent hs) hid pos hlen).mono fun _ _ ⟨v, k1, k2, k3, k4⟩ => ⟨v, k1, (h.step k2 k3).l, fun W hW => ⟨(h.step k2 k3).k W hW, keep_row k4 (fun i hi => h.fresh (k4.lt i hi).1) W hW⟩⟩
theorem AlB.where_c (h : AlB w0 w P q G K) {t : Tk} (ht : okT t) :
    Calls Tryd.prog 22 #[.pointer (some ⟨q, 0, none⟩), .agg #[.int .i64 t.job, .int .i64 t.ix]] w fun e w' => e = .returned (.tuple #[.int .i64 (seatA G t).set, .int .i64 (seatA G t).pos, .bool (tkA G t).isSome]) ∧ AlB w0 w' P q G K :=
  (h.l.book.where_c ht).mono fun _ _ ⟨k1, k2⟩ => ⟨k1, h.on k2⟩
theorem AlB.spots_c (h : AlB w0 w P q G K) {id : Int} (hid : i64 id) :
    Calls Tryd.prog 24 #[.pointer (some ⟨q, 0, none⟩), .int .i64 id] w fun e w' => ∃ v, e = .returned v ∧ AlB w0 w' P q G (fun W => K W ∧ OwnE encSpt 65 W w.heap.size v (spotsOf G id)) :=
  (h.l.book.spots_c hid).mono fun _ _ ⟨v, k1, k2, k3⟩ => ⟨v, k1, h.row k3 k2⟩
theorem AlB.inside_c (h : AlB w0 w P q G K) (id pos : Int) (hlen : G.tasks.length ≤ 100000) :
    Calls Tryd.prog 26 #[.pointer (some ⟨q, 0, none⟩), .int .i64 id, .int .i64 pos] w fun e w' => ∃ v, e = .returned v ∧ AlB w0 w' P q G (fun W => K W ∧ OwnE encTk 32 W w.heap.size v (insideA G id pos)) :=
  (h.l.book.inside_c id pos hlen).mono fun _ _ ⟨v, k1, k2, k3⟩ => ⟨v, k1, h.row k3 k2⟩
theorem AlB.kind_c (h : AlB w0 w P q G K) (hs : Sent s w0) {d : Nat} (hd : d ≤ 14) :
    Calls Tryd.prog 8 #[errV s d] w fun e w' => e = .returned (.int .i64 (d : Nat)) ∧ AlB w0 w' P q G K :=
  (kind_errV s d w (h.sentw hs) hd).mono fun _ _ ⟨k1, k2⟩ => ⟨k1, h.on k2⟩
end
/-- A new book. -/
theorem alb_new (w : World) : Calls Tryd.prog 7 #[] w fun e w' => ∃ q P, e = .returned (.pointer (some ⟨q, 0, none⟩)) ∧ AlB w w' P q ⟨[], []⟩ (fun _ => True) :=
  (anew_c w).mono fun _ _w' ⟨q, k1, k2, k3⟩ => ⟨q, _, k1, ⟨k2, k3, fun _ hk => hk.1⟩, fun _ _ => trivial⟩
theorem alb_new_in {w0 w : World} (hb : Below w0.heap.size w0 w) : Calls Tryd.prog 7 #[] w fun e w' => ∃ q P, e = .returned (.pointer (some ⟨q, 0, none⟩)) ∧ AlB w0 w' P q ⟨[], []⟩ (fun _ => True) :=
  (anew_c w).mono fun _ _w' ⟨q, k1, k2, k3⟩ => ⟨q, _, k1, ⟨k2, hb.trans (k3.mono hb.size), fun _ hk => Nat.le_trans hb.size hk.1⟩, fun _ _ => trivial⟩

theorem putA_le (G : AG) (t : Tk) (id pos : Int) (v : V4) : (putA G t id pos v).2 ≤ 14 := by unfold putA; cases setA G id <;> simp only <;> (repeat' split) <;> omega
theorem openA_le (G : AG) (id n : Int) (v : V4) : (openA G id n v).2 ≤ 14 := by unfold openA; (repeat' split) <;> omega
theorem closeA_le (G : AG) (id : Int) : (closeA G id).2 ≤ 14 := by unfold closeA; (repeat' split) <;> omega
theorem turnA_le (G : AG) (id pos : Int) (b : Bool) : (turnA G id pos b).2 ≤ 14 := by unfold turnA; cases setA G id <;> simp only <;> (repeat' split) <;> omega
theorem takeA_le (G : AG) (t : Tk) : (takeA G t).2 ≤ 14 := by unfold takeA; split <;> omega
set_option maxRecDepth 100000 in
set_option maxHeartbeats 1600000 in
/-- The law's own comparison of rows of tasks. -/
theorem same_c {w : World} {b b' na nb ca cb : Nat} {A B : Option Addr} {e e' : TypeId} {L M : List Tk} (h : OwnE encTk e w b (.slice A na ca) L) (k : OwnE encTk e' w b' (.slice B nb cb) M) (hna : L.length = na) (hnb : M.length = nb) (hn : na ≤ 100000) :
    Calls Tryd.prog 17 #[.slice A na ca, .slice B nb cb] w fun e w' => e = .returned (.bool (decide (L = M))) ∧ Below w.heap.size w w' := by
  by_cases hl : na = nb
  · subst hl
    have hE := eqTk
    have HL := Lib.hid h; have HM := Lib.hid k
    have n1 : (na != na) = false := by simp
    have HNA := Lib.hid hna; have HNB := Lib.hid hnb
    clear h k hna hnb
    go_enter Tryd.func17, Tryd.ntmps17
    go_wp2_with fail
    go_loopw [5] (fun I wr => ∃ j : Nat, j ≤ na ∧ I = .int .i64 (j : Int) ∧ L.take j = M.take j ∧ Below w.heap.size w wr) (fun I _ => na - natOf I)
    case atStart => exact ⟨0, Nat.zero_le _, rfl, rfl, Below.refl _ _⟩
    case round =>
      obtain ⟨j, hj, rfl, heq, hb⟩ := hrel
      have HEQ := Lib.hid heq; have HB := Lib.hid hb
      by_cases hjn : j < na
      · obtain ⟨x, hx⟩ : ∃ x, L[j]? = some x := ⟨_, List.getElem?_eq_getElem (by rw [HNA.out]; exact hjn)⟩
        obtain ⟨y, hy⟩ : ∃ y, M[j]? = some y := ⟨_, List.getElem?_eq_getElem (by rw [HNB.out]; exact hjn)⟩
        obtain ⟨ad, g, hAd, hadd, _, _, _, hcc⟩ := (HL.out.on hb).at hx
        obtain ⟨bd, g2, hBd, hbdd, _, _, _, hdd⟩ := (HM.out.on hb).at hy
        subst hAd; subst hBd
        have a0 := hcc 0 _ rfl
        have a1 := hcc 1 _ rfl
        have d0 := hdd 0 _ rfl
        have d1 := hdd 1 _ rfl
        rw [Nat.add_zero] at a0 d0
        have j0 : (0 : Int) ≤ (j : Int) := by omega
        have j1 : (j : Int) < (na : Int) := by omega
        have hw1 : wrap64 ((j : Int) + 1) = ((j + 1 : Nat) : Int) := by unfold wrap64; omega
        have HX := Lib.hid hx; have HY := Lib.hid hy
        have hE' := fun W => hE x y W
        by_cases hxy : x = y
        · have e1 : decide (x = y) = true := decide_eq_true hxy
          rw [e1] at hE'
          have HXY := Lib.hid hxy
          clear hcc hdd hE heq hb hx hy hxy e1
          go_upto_region 6 with fail
          go_quiet (fail)
          go_wp2_with fail
          go_roundw
          case rel => exact ⟨j + 1, hjn, by rw [← hw1]; first | rfl | (congr 1; omega), by rw [List.take_add_one, List.take_add_one, HEQ.out, HX.out, HY.out, HXY.out], below_drewN HB.out _⟩
          case measure => simp [natOf]; omega
        · have e1 : decide (x = y) = false := decide_eq_false hxy
          rw [e1] at hE'
          have HXY := Lib.hid hxy
          clear hcc hdd hE heq hb hx hy hxy e1
          go_upto_region 6 with fail
          go_quiet (fail)
          go_wp2_with fail
          go_ret
          have hd : decide (L = M) = false := decide_eq_false fun e => by
            have := HX.out
            rw [e, HY.out] at this
            exact HXY.out (Option.some.inj this).symm
          refine ⟨?_, below_drewN HB.out _⟩
          rw [hd]; rfl
      · obtain rfl : j = na := by omega
        have hd : decide (L = M) = true := by
          rw [decide_eq_true_iff]
          have := HEQ.out
          rwa [List.take_of_length_le (by rw [HNA.out]; exact Nat.le_refl _), List.take_of_length_le (by rw [HNB.out]; exact Nat.le_refl _)] at this
        have HD := Lib.hid hd
        clear heq hb hE hd
        go_wp2_with fail
        go_ret
        refine ⟨?_, HB.out⟩
        rw [HD.out]; rfl
  · have n1 : ((na : Int) != (nb : Int)) = true := by simp; omega
    have hne : decide (L = M) = false := decide_eq_false fun e => hl (by rw [← hna, ← hnb, e])
    rw [hne]
    clear h k hl hna hnb
    go_enter Tryd.func17, Tryd.ntmps17
    go_wp2_with fail
    go_ret
    exact ⟨rfl, Below.refl _ _⟩
end Go.Proofs.YtbdnfppbiplpmaaDoor

/- The program's book of envelopes by contracts: Sets. Condition: the book lies in memory as its maps have it. -/
namespace Go.Proofs.YtbdnfppbiplpmaaDoor
open Go Go.RowKit Go.Maps Go.Sort

section
variable {w : World} {P : Nat → Prop} {q b1 b2 : Nat} {T1 : List (Int × Option (Nat × Nat))} {T2 : List (Tk × SeatR)} {bl : Int → Nat} {G : AG}
/-- The numbers of all sets, in order. -/
def setsOf (G : AG) : List Int := sortI (G.sets.map (·.id))
theorem AlP.sets_of (h : AlP w P q b1 b2 T1 T2 bl G) : sortI (T1.map (·.1)) = setsOf G := mergeSort_of_perm_i h.keys1
set_option maxRecDepth 100000 in
set_option maxHeartbeats 3200000 in
/-- Book.Sets. -/
theorem asets_c (h : AlP w P q b1 b2 T1 T2 bl G) :
    Calls Tryd.prog 28 #[.pointer (some ⟨q, 0, none⟩)] w fun e w' => ∃ v, e = .returned v ∧ IOwn w' w.heap.size v (setsOf G) ∧ Below w.heap.size w w' := by
  have HK := Lib.hid (aknown_c q b1 b2 w h.box)
  have hf0 := fieldB0
  have HM : Hid (∀ w', Below w.heap.size w w' → SetsAt w' b1 T1) := Lib.hid fun w' hb => (h.on hb).m1
  have HKY := Lib.hid (fun W => keysA_c (some b1) W)
  have HLE : Hid (T1.length ≤ 1000000) := Lib.hid (by rw [h.len1]; have := h.good.few; omega)
  have HS := Lib.hid h.sets_of
  clear h
  go_enter Tryd.func28, Tryd.ntmps28
  go_wp2_with fail
  refine HK.out.mono ?_
  rintro e w1 ⟨rfl, bb1⟩
  have HM1 := Lib.hid (HM.out w1 bb1)
  have HB1 := Lib.hid bb1
  clear bb1
  go_wp2_with fail
  refine (HKY.out _).mono ?_
  rintro e w2 ⟨rfl, rfl⟩
  go_wp2_with fail
  refine (sortedA_c b1 T1 w1 HM1.out HLE.out).mono ?_
  rintro e w3 ⟨v, rfl, hv, b3⟩
  have HV := Lib.hid hv
  have HB3 := Lib.hid b3
  clear hv b3
  go_wp2_with fail
  go_ret
  refine ⟨_, rfl, ?_, HB1.out.trans (HB3.out.mono HB1.out.size)⟩
  rw [← HS.out]
  have h1 := HB1.out.size
  exact ⟨HV.out.1, by
    rcases HV.out.2 with k | ⟨g, cap, cur, rfl, hb, r⟩
    · exact .inl k
    · exact .inr ⟨g, cap, cur, rfl, by omega, r⟩⟩
end
set_option maxRecDepth 100000 in
/-- .. of no book. -/
theorem asets_nil (w : World) : Calls Tryd.prog 28 #[.pointer none] w fun e w' => e = .returned (.slice none 0 0) ∧ Below w.heap.size w w' := by
  have HK := Lib.hid (aknown_nil w)
  have hf0 := fieldB0
  have HKY := Lib.hid (fun W => keysA_c none W)
  go_enter Tryd.func28, Tryd.ntmps28
  go_wp2_with fail
  refine HK.out.mono ?_
  rintro e w1 ⟨rfl, bb1⟩
  have HB1 := Lib.hid bb1
  clear bb1
  go_wp2_with fail
  refine (HKY.out _).mono ?_
  rintro e w2 ⟨rfl, rfl⟩
  go_wp2_with fail
  refine (sortedA_nil w1).mono ?_
  rintro e w3 ⟨rfl, b3⟩
  go_wp2_with fail
  go_ret
  exact ⟨rfl, HB1.out.trans (b3.mono HB1.out.size)⟩
end Go.Proofs.YtbdnfppbiplpmaaDoor

/- The book's envelopes told in order, as the laws ask it. Condition: the book lies in memory as its maps have it. -/
namespace Go.Proofs.YtbdnfppbiplpmaaDoor
open Go Go.RowKit Go.Maps Go.Sort

theorem AlW.sets_c {w : World} {P : Nat → Prop} {q : Nat} {G : AG} (h : AlW w P q G) :
    Calls Tryd.prog 28 #[.pointer (some ⟨q, 0, none⟩)] w fun e w' => ∃ v, e = .returned v ∧ IOwn w' w.heap.size v (setsOf G) ∧ Below w.heap.size w w' := by
  obtain ⟨b1, b2, T1, T2, bl, h⟩ := h
  exact asets_c h
end Go.Proofs.YtbdnfppbiplpmaaDoor

/- Equality of spots; the answers that the document fixes by number. Condition: the sentinels lie as the program's text lays them. -/
namespace Go.Proofs.YtbdnfppbiplpmaaDoor
open Go Go.RowKit Go.Maps Go.Sort

theorem part0S (a0 a1 a2 a3 a4 : Value) (W : World) : (part 3 #[a0, a1, a2, a3, a4] 0).run Tryd.prog W = .ok a0 W := by kernel_rfl
theorem part1S (a0 a1 a2 a3 a4 : Value) (W : World) : (part 34 #[a0, a1, a2, a3, a4] 1).run Tryd.prog W = .ok (.agg #[a1, a2, a3, a4]) W := by kernel_rfl
/-- Two spots are the same if their numbers and what is left are. -/
theorem eqSp (x y : Spt) (w : World) : (Op.equalIn 10000 65 (.agg #[.int .i64 x.id, .int .i64 x.left.a, .int .i64 x.left.b, .int .i64 x.left.c, .int .i64 x.left.d]) (.agg #[.int .i64 y.id, .int .i64 y.left.a, .int .i64 y.left.b, .int .i64 y.left.c, .int .i64 y.left.d])).run Tryd.prog w = .ok (decide (x.id = y.id) && decide (x.left = y.left)) w := by
  have hs : Tryd.prog.stoodInHeld 65 = false := by kernel_rfl
  have ht : Tryd.prog.underlying 65 = some (.struct (Tryd.prog.fieldsOf 65)) := by kernel_rfl
  have hf : ∃ fs, Tryd.prog.fieldsOf 65 = fs ∧ Tryd.prog.underlying 65 = some (.struct fs) := ⟨_, rfl, ht⟩
  obtain ⟨fs, h1, h2⟩ := hf
  rw [Tryd.underlying65] at h2
  simp only [Option.some.injEq, TypeDesc.struct.injEq] at h2
  subst h2
  rw [run_equalIn_agg w 9999 65 _ _ ht hs, h1]
  have n1 : ("Id" ≠ "_") = True := by simp
  have n2 : ("Left" ≠ "_") = True := by simp
  by_cases e0 : x.id = y.id <;> cases e1 : decide (x.left = y.left) <;>
    simp [Op.eqFields, n1, n2, part0S, part1S, eqV9d, run_equalIn_int _ _ _ _ _ _ _ Tryd.underlying3, e0, e1]
theorem eqSp_self (x : Spt) (w : World) : (Op.equalIn 10000 65 (.agg #[.int .i64 x.id, .int .i64 x.left.a, .int .i64 x.left.b, .int .i64 x.left.c, .int .i64 x.left.d]) (.agg #[.int .i64 x.id, .int .i64 x.left.a, .int .i64 x.left.b, .int .i64 x.left.c, .int .i64 x.left.d])).run Tryd.prog w = .ok true w := by rw [eqSp]; simp
theorem neE (s : Nat → Addr) {d : Nat} (h : d = 0) : errV s d = .nilIface := by rw [h]; rfl
set_option maxRecDepth 100000 in
set_option maxHeartbeats 6400000 in
theorem awake17_c (s : Nat → Addr) (w : World) (hs : Sent s w) : Calls Tryd.prog 6 #[] w fun e w' => e = .returned (.bool true) ∧ Below w.heap.size w w' := by
  have HS := Lib.hid hs
  obtain ⟨t, ht⟩ : ∃ t : Tk, t = ⟨9, 1⟩ := ⟨_, rfl⟩
  have i3 : i64 3 := by unfold i64; omega
  have HT : Hid (okT t) := Lib.hid (by rw [ht]; unfold okT i64; simp only; omega)
  obtain ⟨g1, hg1⟩ : ∃ g1, g1 = (openA ⟨[], []⟩ 3 2 ⟨8, 8, 8, 8⟩).1 := ⟨_, rfl⟩
  have o1 : (openA ⟨[], []⟩ 3 2 ⟨8, 8, 8, 8⟩).2 = 0 := by kernel_rfl
  have p1 : putA g1 t 3 0 ⟨5, 0, 0, 0⟩ = (g1, 13) := by rw [hg1, ht]; rfl
  obtain ⟨g2, hg2⟩ : ∃ g2, g2 = (turnA g1 3 0 true).1 := ⟨_, rfl⟩
  have r1 : (turnA g1 3 0 true).2 = 0 := by rw [hg1]; kernel_rfl
  obtain ⟨g3, hg3⟩ : ∃ g3, g3 = (putA g2 t 3 0 ⟨5, 0, 0, 0⟩).1 := ⟨_, rfl⟩
  have p2 : (putA g2 t 3 0 ⟨5, 0, 0, 0⟩).2 = 0 := by rw [hg2, hg1, ht]; kernel_rfl
  have s1 : spotsOf g3 3 = [⟨0, ⟨3, 8, 8, 8⟩⟩] := by rw [hg3, hg2, hg1, ht]; rfl
  obtain ⟨g4, hg4⟩ : ∃ g4, g4 = (turnA g3 3 0 false).1 := ⟨_, rfl⟩
  have f1 : (turnA g3 3 0 false).2 = 0 := by rw [hg3, hg2, hg1, ht]; kernel_rfl
  have n1 : insideA g3 3 0 = [t] := by rw [hg3, hg2, hg1, ht]; rfl
  have k1 : (takeA g4 t).2 = 5 := by rw [hg4, hg3, hg2, hg1, ht]; kernel_rfl
  have l1 : g1.tasks.length = 0 := by rw [hg1]; rfl
  have l2 : g2.tasks.length = 0 := by rw [hg2, hg1]; rfl
  have l3 : g3.tasks.length = 1 := by rw [hg3, hg2, hg1, ht]; rfl
  have HG1 := Lib.hid hg1; have HG2 := Lib.hid hg2; have HG3 := Lib.hid hg3; have HG4 := Lib.hid hg4
  have O1 := Lib.hid o1; have P1 := Lib.hid p1; have R1 := Lib.hid r1; have P2 := Lib.hid p2; have S1 := Lib.hid s1; have F1 := Lib.hid f1; have N1 := Lib.hid n1; have K1 := Lib.hid k1
  have L1 := Lib.hid l1; have L2 := Lib.hid l2; have L3 := Lib.hid l3
  have HTT := Lib.hid ht
  clear hs hg1 hg2 hg3 hg4 o1 p1 r1 p2 s1 f1 n1 k1 l1 l2 l3 ht
  go_enter Tryd.func6, Tryd.ntmps6
  go_wp2_with fail
  refine (alb_new w).mono ?_
  rintro e w1 ⟨q, P, rfl, h1⟩
  go_upto_region 5 with fail
  obtain ⟨X, hX⟩ : ∃ X, w1.heap.size = X := ⟨_, rfl⟩
  obtain ⟨W2, hW2⟩ : ∃ W2, w1.alloc (.cells #[.int .i64 9, .int .i64 1] 32) = W2 := ⟨_, rfl⟩
  have h2 : AlB w W2 P q ⟨[], []⟩ (fun W => W.heap[X]? = some (.cells #[.int .i64 9, .int .i64 1] 32 (0, 0))) := by
    rw [← hW2, ← hX]
    exact (h1.new (.cells #[.int .i64 9, .int .i64 1] 32 (0, 0))).drop fun W h => h.2
  have H2 := Lib.hid h2
  rw [hW2, hX]
  clear hW2 hX h1 h2
  go_wp2_with fail
  refine (H2.out.open_c HS.out 3 2 ⟨8, 8, 8, 8⟩).mono ?_
  rintro e w3 ⟨rfl, P3, h3⟩
  rw [← HG1.out] at h3
  rw [neE s O1.out]
  have x0 := cell_of_heap h3.has 0
  have x1 := cell_of_heap h3.has 1
  have H3 := Lib.hid h3
  clear h3 H2
  go_wp2_with fail
  have c3 := H3.out.put_c HS.out HT.out i3 0 ⟨5, 0, 0, 0⟩ (by rw [L1.out]; omega)
  rw [P1.out, errA s 13 (by omega), HTT.out] at c3
  refine c3.mono ?_
  rintro e w4 ⟨rfl, h4⟩
  have H4 := Lib.hid h4
  clear c3 h4 H3 x0 x1
  go_wp2_with fail
  refine (H4.out.raise_c HS.out i3 0).mono ?_
  rintro e w5 ⟨rfl, h5⟩
  rw [← HG2.out] at h5
  rw [neE s R1.out]
  have x0 := cell_of_heap h5.has 0
  have x1 := cell_of_heap h5.has 1
  have H5 := Lib.hid h5
  clear h5 H4
  go_wp2_with fail
  have c5 := H5.out.put_c HS.out HT.out i3 0 ⟨5, 0, 0, 0⟩ (by rw [L2.out]; omega)
  rw [← HG3.out, P2.out, errA0, HTT.out] at c5
  refine c5.mono ?_
  rintro e w6 ⟨rfl, h6⟩
  have H6 := Lib.hid h6
  clear c5 h6 H5 x0 x1
  go_wp2_with fail
  have c6 := H6.out.spots_c i3
  rw [S1.out] at c6
  refine c6.mono ?_
  rintro e w7 ⟨vl, rfl, h7⟩
  have H7 := Lib.hid h7
  clear c6 h7 H6
  go_wp2_with fail
  have c7 := H7.out.fall_c HS.out i3 0 (by rw [L3.out]; omega)
  rw [← HG4.out, F1.out, N1.out, if_pos rfl, errA0] at c7
  refine c7.mono ?_
  rintro e w8 ⟨vx, rfl, h8⟩
  have H8 := Lib.hid h8
  clear c7 h8 H7
  have hhas := H8.out.has
  obtain ⟨⟨_, hl⟩, hx⟩ := hhas
  obtain ⟨gl, cl, el, _⟩ := hl.some (by simp)
  obtain ⟨gx, cx, ex, _⟩ := hx.some (by simp)
  subst el; subst ex
  clear hl hx
  go_wp2_with fail
  have ck := H8.out.kind_c HS.out (d := 13) (by omega)
  rw [errA s 13 (by omega)] at ck
  refine ck.mono ?_
  rintro e w9 ⟨rfl, h9⟩
  have H9 := Lib.hid h9
  clear ck h9 H8
  obtain ⟨⟨hX, hl⟩, hx⟩ := H9.out.has
  obtain ⟨gl', cl', el, _, _, _, hlf, hlc⟩ := hl.some (by simp)
  simp only [List.length_singleton, Value.slice.injEq, Option.some.injEq, Addr.mk.injEq, and_true] at el
  obtain ⟨rfl, _⟩ := el
  have l0 : w9.cell? ⟨gl, 0, none⟩ = some (.int .i64 0) := hlc 0 _ rfl 0 _ rfl
  have l1 : w9.cell? ⟨gl, 1, none⟩ = some (.int .i64 3) := hlc 0 _ rfl 1 _ rfl
  have l2 : w9.cell? ⟨gl, 2, none⟩ = some (.int .i64 8) := hlc 0 _ rfl 2 _ rfl
  have l3 : w9.cell? ⟨gl, 3, none⟩ = some (.int .i64 8) := hlc 0 _ rfl 3 _ rfl
  have l4 : w9.cell? ⟨gl, 4, none⟩ = some (.int .i64 8) := hlc 0 _ rfl 4 _ rfl
  have x0 := cell_of_heap hX 0
  have x1 := cell_of_heap hX 1
  have hE := eqSp_self ⟨0, ⟨3, 8, 8, 8⟩⟩
  simp only at hE
  clear hl hx hlc hlf hX
  go_wp2_with fail
  have hb9 : Below w9.heap.size w9 (w9.alloc (.cells #[.int .i64 9, .int .i64 1] 32)) := (Below.refl _ _).alloc (Nat.le_refl _) _
  have hxr := (H9.out.on hb9).has.2
  have hlit : OwnE encTk 32 (w9.alloc (.cells #[.int .i64 9, .int .i64 1] 32)) w9.heap.size (.slice (some ⟨w9.heap.size, 0, none⟩) 1 1) [t] := by
    have := own_lit encTk (w := w9.alloc (.cells #[.int .i64 9, .int .i64 1] 32)) (g := w9.heap.size) (t := 32) [t] (by rw [HTT.out]; exact heap_alloc_new w9 _) (by simp [maxLen])
    exact this
  have H10 := Lib.hid (H9.out.on hb9)
  have cs := same_c hxr hlit rfl rfl (by simp)
  rw [decide_eq_true rfl] at cs
  refine cs.mono ?_
  rintro e w10 ⟨rfl, b10⟩
  have H11 := Lib.hid (H10.out.on b10)
  obtain ⟨⟨hX, _⟩, _⟩ := H11.out.has
  clear cs hxr hlit b10 H10 hb9 l0 l1 l2 l3 l4 x0 x1 hE
  have x0 := cell_of_heap hX 0
  have x1 := cell_of_heap hX 1
  clear hX
  go_wp2_with fail
  have ct := H11.out.take_c HS.out HT.out
  rw [K1.out, errA s 5 (by omega), HTT.out] at ct
  refine ct.mono ?_
  rintro e w12 ⟨rfl, h12⟩
  have H12 := Lib.hid h12
  clear ct h12 H11 x0 x1
  go_wp2_with fail
  have ck := H12.out.kind_c HS.out (d := 5) (by omega)
  rw [errA s 5 (by omega)] at ck
  refine ck.mono ?_
  rintro e w13 ⟨rfl, h13⟩
  have HB := Lib.hid h13.below
  clear ck h13 H12
  go_wp2_with fail
  go_ret
  exact ⟨rfl, HB.out⟩
end Go.Proofs.YtbdnfppbiplpmaaDoor
